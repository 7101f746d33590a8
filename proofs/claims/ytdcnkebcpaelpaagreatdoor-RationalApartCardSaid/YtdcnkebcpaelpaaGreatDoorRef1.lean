import Derived.Test.YtdcnkebcpaelpaaGreatDoorNats
import Derived.Deep.QuietTactic
import Derived.BigQuiet
/- Contracts of the reference's package, layer 1, and of the law's small helpers. -/
namespace Go.Proofs.YtdcnkebcpaelpaaGreatDoor
open Go.RowKit

/-- append of a slice of limbs onto an empty one of the call's own -/
theorem wp_append_rd0 (w : World) {ops : Array Oper} {rest : List Oper} {o : Oper} {a : Act} {Q : Exit → Act → World → Prop} (hg : o.guard = none) (s x : Operand) (t : TypeId)
    (ho : o.op = .call { callee := .builtin .append, args := #[s, x], argTypes := #[t, t] }) (ht : Tryz.prog.underlying t = some (.slice 35)) (B : Nat) (v : Value) (hown : w.ownsRow B 35 1 v 0 (lits [])) (hB : B ≤ w.heap.size)
    (hs : a.eval s = v) (ao : Option Addr) (cap : Nat) (xs : List Nat) (m : Nat) (hx : a.eval x = .slice ao m cap) (hm : xs.length = m) (hr : Rd w ao cap xs) (hb : xs.length ≤ 1099511627776)
    (h : ∀ ao' cap' w', Fr B w' ao' cap' xs → Below B w w' → wpList Tryz.prog ops Q rest (a.put o.dst (.slice ao' m cap')) w') : wpList Tryz.prog ops Q (o :: rest) a w := by
  obtain ⟨i0, hi, hz0, hz1, hz2⟩ := info_parts infoU32
  subst hm
  cases ao with
  | none =>
    obtain ⟨rfl, rfl⟩ := hr.none_nil
    refine wpList_append_own_none hg s x t ho B 35 i0 1 ht hi v 0 [] hs hown hx ?_
    obtain ⟨ao', cap', rfl, hf, _⟩ := Fr.of_row hown lims_nil
    exact h ao' cap' w hf (Below.refl _ _)
  | some ad =>
    refine wpList_append_own w hg s x t ho B 35 i0 (.int .u32 0) 1 4 ht hi hz0 hz1 hz2 rfl (by omega) v 0 [] hs hown ad xs.length cap (lits xs) hx (by simp [lits_length]) ?_ ?_ (by unfold maxLen; omega) (by omega) hB ?_
    · intro j u hj
      rw [lits_get] at hj
      by_cases hl : j < xs.length
      · rw [if_pos hl] at hj
        cases hj
        obtain ⟨b, o', e, hc⟩ := hr.at (by omega)
        cases e
        rw [Addr.add_lit]
        exact hc j hl
      · rw [if_neg hl] at hj; cases hj
    · intro u hu
      obtain ⟨_, _, rfl⟩ := List.mem_map.1 hu
      rfl
    · intro v' w' h1 h2 _
      simp only [Nat.zero_add, List.nil_append] at h1
      obtain ⟨ao', cap', rfl, hf, _⟩ := Fr.of_row h1 hr.lims
      exact h ao' cap' w' hf ((Below.refl _ _).grown h2 hB (fun k hk => (hown.lt k hk).1))

set_option maxHeartbeats 400000 in
theorem rsize_any (ao : Option Addr) (cap : Nat) (xs : List Nat) (w : World) (h : Rd w ao cap xs) :
    Calls Tryz.prog 49 #[.slice ao xs.length cap] w fun e w' => e = .returned (.int .i64 ((trim xs).length : Nat)) ∧ w = w' := by
  have hm := h.max
  have hle := h.le
  go_enter Tryz.func49, Tryz.ntmps49
  go_wp2
  go_loop [3] (fun s => ∃ k : Nat, k ≤ xs.length ∧ s = .int .i64 k ∧ Hid (sz xs k = sz xs xs.length)) (fun s => (intOf s).toNat)
  case atStart => exact ⟨xs.length, Nat.le_refl _, rfl, rfl⟩
  case round =>
    obtain ⟨k, hk, rfl, hs⟩ := hrel
    by_cases hk0 : 0 < k
    · obtain ⟨b, o, rfl, hc⟩ := h.at (by omega)
      have hci := hc (k - 1) (by omega)
      clear hc
      have hx := h.lims (k - 1)
      by_cases hz : lm xs (k - 1) = 0
      · have hd : (((lm xs (k - 1) : Nat) : Int) == 0) = true := by simp [hz]
        have hs2 : Hid (sz xs (k - 1) = sz xs xs.length) := (sz_step hk0 hz).trans hs.out
        clear hz
        go_wp2
        go_round
        case rel => exact ⟨k - 1, by omega, by go_num, hs2⟩
        case measure => simp [intOf]; omega
      · have hd : (((lm xs (k - 1) : Nat) : Int) == 0) = false := by simp [hz]
        have hs2 : Hid ((trim xs).length = k) := (trim_length xs).trans (hs.out.symm.trans (sz_stop hk0 hz))
        clear hz
        go_wp2
        go_ret
        exact ⟨ret_i64 (by rw [hs2.out]), rfl⟩
    · obtain rfl : k = 0 := by omega
      have hs2 : Hid ((trim xs).length = 0) := (trim_length xs).trans hs.out.symm
      go_wp2
      go_ret
      exact ⟨ret_i64 (by rw [hs2.out]; rfl), rfl⟩

set_option maxHeartbeats 400000 in
set_option maxRecDepth 100000 in
theorem rTrim_any (ao : Option Addr) (cap : Nat) (xs : List Nat) (w : World) (h : Rd w ao cap xs) (hb : xs.length ≤ 1099511627776) :
    Calls Tryz.prog 50 #[.slice ao xs.length cap] w fun e w' => ∃ ao' cap', e = .returned (.slice ao' (dig (val xs)).length cap') ∧ Fr w.heap.size w' ao' cap' (dig (val xs)) ∧ Below w.heap.size w w' := by
  have ht := Lib.hid (trim_dig h.lims)
  have hl := trim_length_le xs
  have hm := h.max
  have hle := h.le
  have hown : (w.alloc (.cells #[] 35)).ownsRow w.heap.size 35 1 (.slice (some ⟨w.heap.size, 0, none⟩) 0 0) 0 (lits []) := World.ownsRow_lit (size := 1) w #[] 0 (Nat.le_refl _) (by omega) rfl
  have hb0 : Below w.heap.size w (w.alloc (.cells #[] 35)) := (Below.refl _ _).alloc (Nat.le_refl _) _
  have h2 := h.alloc (.cells #[] 35)
  go_enter Tryz.func50, Tryz.ntmps50
  go_wp2_with fail
  refine (rsize_any _ _ _ _ h2).mono ?_; rintro e w' ⟨rfl, rfl⟩
  go_wp2_with (at_builtin; refine wp_append_rd0 _ rfl _ _ 23 rfl Tryz.underlying23 w.heap.size _ hown (by simp) rfl ao cap (trim xs) _ rfl rfl h2.trim (by omega) ?_; intro ao' cap' w1 hf hb1)
  go_ret
  rw [ht.out] at hf
  exact ⟨ao', cap', ret_len (congrArg List.length ht.out), hf, hb0.trans hb1⟩
theorem rTrim_len (ao : Option Addr) (cap : Nat) (xs : List Nat) (w : World) (h : Rd w ao cap xs) (hb : xs.length ≤ 1099511627776) (n : Nat) (hn : n = xs.length) :
    Calls Tryz.prog 50 #[.slice ao n cap] w fun e w' => ∃ ao' cap', e = .returned (.slice ao' (dig (val xs)).length cap') ∧ Fr w.heap.size w' ao' cap' (dig (val xs)) ∧ Below w.heap.size w w' := by
  subst hn; exact rTrim_any ao cap xs w h hb

set_option maxHeartbeats 400000 in
set_option maxRecDepth 100000 in
/-- two slices that read the same are the same -/
theorem Same_eq (ao bo : Option Addr) (ca cb : Nat) (xs : List Nat) (w : World) (ha : Rd w ao ca xs) (hb : Rd w bo cb xs) :
    Calls Tryz.prog 29 #[.slice ao xs.length ca, .slice bo xs.length cb] w fun e w' => e = .returned (.bool true) ∧ Below w.heap.size w w' := by
  have hm := ha.max
  have hle := ha.le
  go_enter Tryz.func29, Tryz.ntmps29
  go_wp2
  go_loopw [13] (fun s wr => ∃ i : Nat, i ≤ xs.length ∧ s = .int .i64 i ∧ Below w.heap.size w wr) (fun s _ => xs.length - (intOf s).toNat)
  case atStart => exact ⟨0, Nat.zero_le _, rfl, Below.refl _ _⟩
  case round =>
    obtain ⟨i, hi, rfl, hbl⟩ := hrel
    by_cases hlt : i < xs.length
    · obtain ⟨b, o, rfl, hc⟩ := (ha.below hbl).at (by omega)
      obtain ⟨b', o', rfl, hc'⟩ := (hb.below hbl).at (by omega)
      have h1 := hc i hlt
      have h2 := hc' i hlt
      have hx := ha.lims i
      clear hc hc'
      go_wp2_with fail
      go_quiet (fail)
      go_wp2
      go_roundw
      case rel => exact ⟨i + 1, by omega, by go_num, below_drewN hbl _⟩
      case measure => simp [intOf]; omega
    · go_wp2
      go_ret
      exact ⟨rfl, hbl⟩
end Go.Proofs.YtdcnkebcpaelpaaGreatDoor
