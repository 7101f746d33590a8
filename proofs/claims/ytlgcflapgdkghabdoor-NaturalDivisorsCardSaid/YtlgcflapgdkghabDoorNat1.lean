/- Contracts of package natural, first part: limbs, canonical forms, order, sums. -/
import Derived.Test.YtlgcflapgdkghabDoorMem
import Derived.Laws.AppendOwnNone
namespace Go.Proofs.YtlgcflapgdkghabDoor
open Go.RowKit

theorem infoU32 : (Tryd.prog.info? 31).map (fun i => (i.zero, i.size, i.bytes)) = some (some (.int .u32 0), 1, 4) := by kernel_rfl

theorem Fr.of_row {w : World} {base n : Nat} {v : Value} {xs : List Nat} (h : w.ownsRow base 31 1 v n (lits xs)) (hl : Lims xs) :
    ∃ ao cap, v = .slice ao n cap ∧ Fr base w ao cap xs ∧ xs.length = n := by
  have hlen : xs.length = n := by simpa [lits_length] using h.1
  rcases h.2 with ⟨rfl, rfl⟩ | ⟨g, cap, cur, rfl, h3⟩
  · have : xs = [] := List.eq_nil_of_length_eq_zero hlen
    subst this
    exact ⟨none, 0, rfl, Fr.nil _ _, rfl⟩
  · obtain ⟨h4, h5, h6, h7, h8⟩ := Own.of_row h
    exact ⟨_, cap, rfl, Fr.of_own h4 hl h5 cap (by omega) h7, hlen⟩

/-- append of a slice of limbs onto a nil one -/
theorem wp_append_rd (w : World) {ops : Array Oper} {rest : List Oper} {o : Oper} {a : Act} {Q : Exit → Act → World → Prop} (hg : o.guard = none) (s x : Operand) (t : TypeId)
    (ho : o.op = .call { callee := .builtin .append, args := #[s, x], argTypes := #[t, t] }) (ht : Tryd.prog.underlying t = some (.slice 31))
    (hs : a.eval s = .slice none 0 0) (ao : Option Addr) (cap : Nat) (xs : List Nat) (m : Nat) (hx : a.eval x = .slice ao m cap) (hm : xs.length = m) (hr : Rd w ao cap xs) (hb : xs.length ≤ 1099511627776)
    (h : ∀ ao' cap' w', Fr w.heap.size w' ao' cap' xs → Below w.heap.size w w' → wpList Tryd.prog ops Q rest (a.put o.dst (.slice ao' m cap')) w') : wpList Tryd.prog ops Q (o :: rest) a w := by
  obtain ⟨i0, hi, hz0, hz1, hz2⟩ := info_parts infoU32
  have hown := World.ownsRow_nil w w.heap.size 31 1
  subst hm
  cases ao with
  | none =>
    obtain ⟨rfl, rfl⟩ := hr.none_nil
    refine wpList_append_own_none hg s x t ho w.heap.size 31 i0 1 ht hi _ 0 [] hs hown hx ?_
    exact h none 0 w (Fr.nil _ _) (Below.refl _ _)
  | some ad =>
    refine wpList_append_own w hg s x t ho w.heap.size 31 i0 (.int .u32 0) 1 4 ht hi hz0 hz1 hz2 rfl (by omega) _ 0 [] hs hown ad xs.length cap (lits xs) hx (by simp [lits_length]) ?_ ?_ (by unfold maxLen; omega) (by omega) (Nat.le_refl _) ?_
    · intro j u hj
      rw [lits_get] at hj
      by_cases hl : j < xs.length
      · rw [if_pos hl] at hj
        cases hj
        obtain ⟨b, o', e, hc⟩ := hr.at (by omega)
        cases e
        rw [Addr.add_lit]
        exact hc j hl
      · rw [if_neg hl] at hj; cases hj
    · intro u hu
      obtain ⟨_, _, rfl⟩ := List.mem_map.1 hu
      rfl
    · intro v' w' h1 h2 _
      simp only [Nat.zero_add, List.nil_append] at h1
      obtain ⟨ao', cap', rfl, hf, _⟩ := Fr.of_row h1 hr.lims
      exact h ao' cap' w' hf ((Below.refl _ _).grown h2 (Nat.le_refl _) (fun k hk => by cases hk))

theorem sz_step {xs : List Nat} {k : Nat} (h0 : 0 < k) (hz : lm xs (k - 1) = 0) : sz xs (k - 1) = sz xs k := by
  obtain ⟨j, rfl⟩ : ∃ j, k = j + 1 := ⟨k - 1, by omega⟩
  have e : j + 1 - 1 = j := by omega
  rw [e] at hz ⊢
  exact (if_pos hz).symm
theorem sz_stop {xs : List Nat} {k : Nat} (h0 : 0 < k) (hz : ¬ lm xs (k - 1) = 0) : sz xs k = k := by
  obtain ⟨j, rfl⟩ : ∃ j, k = j + 1 := ⟨k - 1, by omega⟩
  have e : j + 1 - 1 = j := by omega
  rw [e] at hz
  exact if_neg hz

set_option maxHeartbeats 400000 in
theorem limb_any (ao : Option Addr) (cap i : Nat) (xs : List Nat) (w : World) (h : Rd w ao cap xs) (n : Int) (hn : n = i) :
    Calls Tryd.prog 30 #[.slice ao xs.length cap, .int .i64 n] w fun e w' => e = .returned (.int .u64 ((lm xs i : Nat) : Int)) ∧ w = w' := by
  subst hn
  have hm := h.max
  have hle := h.le
  by_cases hi : i < xs.length
  · obtain ⟨b, o, rfl, hc⟩ := h.at (by omega)
    have hci := hc i hi
    have hx := h.lims i
    clear hc h
    go_enter Tryd.func30, Tryd.ntmps30
    go_wp2
    go_ret
    exact ⟨rfl, rfl⟩
  · have hz := lm_ge xs i (by omega)
    rw [hz]
    clear h hz
    go_enter Tryd.func30, Tryd.ntmps30
    go_wp2
    go_ret
    exact ⟨rfl, rfl⟩

set_option maxHeartbeats 400000 in
theorem significant_any (ao : Option Addr) (cap : Nat) (xs : List Nat) (w : World) (h : Rd w ao cap xs) :
    Calls Tryd.prog 29 #[.slice ao xs.length cap] w fun e w' => e = .returned (.slice ao (trim xs).length cap) ∧ w = w' := by
  have hm := h.max
  have hle := h.le
  go_enter Tryd.func29, Tryd.ntmps29
  go_wp2
  go_loop [3] (fun s => ∃ k : Nat, k ≤ xs.length ∧ s = .int .i64 k ∧ Hid (sz xs k = sz xs xs.length)) (fun s => (intOf s).toNat)
  case atStart => exact ⟨xs.length, Nat.le_refl _, rfl, rfl⟩
  case round =>
    obtain ⟨k, hk, rfl, hs⟩ := hrel
    by_cases hk0 : 0 < k
    · obtain ⟨b, o, rfl, hc⟩ := h.at (by omega)
      have hci := hc (k - 1) (by omega)
      clear hc
      have hx := h.lims (k - 1)
      by_cases hz : lm xs (k - 1) = 0
      · have hd : (((lm xs (k - 1) : Nat) : Int) == 0) = true := by simp [hz]
        have hs2 : Hid (sz xs (k - 1) = sz xs xs.length) := (sz_step hk0 hz).trans hs.out
        clear hz
        go_wp2
        go_round
        case rel => exact ⟨k - 1, by omega, by go_num, hs2⟩
        case measure => simp [intOf]; omega
      · have hd : (((lm xs (k - 1) : Nat) : Int) == 0) = false := by simp [hz]
        have hs2 : Hid ((trim xs).length = k) := (trim_length xs).trans (hs.out.symm.trans (sz_stop hk0 hz))
        clear hz
        go_wp2
        go_ret
        exact ⟨ret_len hs2.out.symm, rfl⟩
    · obtain rfl : k = 0 := by omega
      have hs2 : Hid ((trim xs).length = 0) := (trim_length xs).trans hs.out.symm
      go_wp2
      go_ret
      exact ⟨ret_len hs2.out.symm, rfl⟩

set_option maxHeartbeats 400000 in
/-- Trim -/
theorem Trim_any (ao : Option Addr) (cap : Nat) (xs : List Nat) (w : World) (h : Rd w ao cap xs) (hb : xs.length ≤ 1099511627776) :
    Calls Tryd.prog 13 #[.slice ao xs.length cap] w fun e w' => ∃ ao' cap', e = .returned (.slice ao' (dig (val xs)).length cap') ∧ Fr w.heap.size w' ao' cap' (dig (val xs)) ∧ Below w.heap.size w w' := by
  have ht := Lib.hid (trim_dig h.lims)
  have hl := trim_length_le xs
  go_enter Tryd.func13, Tryd.ntmps13
  go_wp2_with (first
    | (go_at_call 29; refine (significant_any _ _ _ _ h).mono ?_; rintro e w' ⟨rfl, rfl⟩)
    | (at_builtin; refine wp_append_rd _ rfl _ _ 23 rfl Tryd.underlying23 rfl ao cap (trim xs) _ rfl rfl h.trim (by omega) ?_; intro ao' cap' w1 hf hb1))
  go_ret
  rw [ht.out] at hf
  exact ⟨ao', cap', ret_len (congrArg List.length ht.out), hf, hb1⟩

theorem significant_len (ao : Option Addr) (cap : Nat) (xs : List Nat) (w : World) (h : Rd w ao cap xs) (n : Nat) (hn : n = xs.length) :
    Calls Tryd.prog 29 #[.slice ao n cap] w fun e w' => e = .returned (.slice ao (trim xs).length cap) ∧ w = w' := by
  subst hn; exact significant_any ao cap xs w h

/-- a new block of limbs -/
theorem Own.new (w : World) (xs : List Nat) : Own (w.alloc (.cells (lits xs).toArray 31)) w.heap.size xs := by
  refine ⟨_, heap_alloc_new w _, by simp [lits_length], fun j hj => ?_⟩
  rw [List.getElem?_toArray, lits_get, if_pos hj]

set_option maxHeartbeats 400000 in
theorem FromUint_any (v : Int) (h0 : 0 ≤ v) (h1 : v ≤ 18446744073709551615) (w : World) :
    Calls Tryd.prog 22 #[.int .u64 v] w fun e w' => ∃ ao' cap', e = .returned (.slice ao' (dig v.toNat).length cap') ∧ Fr w.heap.size w' ao' cap' (dig v.toNat) ∧ Below w.heap.size w w' := by
  obtain ⟨n, rfl⟩ := Int.eq_ofNat_of_zero_le h0
  have hl : Lims [n % 4294967296, n / 4294967296] := lims_cons (by omega) (lims_cons (by omega) lims_nil)
  have hv : val [n % 4294967296, n / 4294967296] = n := by simp only [val]; omega
  have hown := Own.new w [n % 4294967296, n / 4294967296]
  have e : (lits [n % 4294967296, n / 4294967296]).toArray = #[.int .u32 ((n : Int) % 4294967296), .int .u32 ((n : Int) / 4294967296)] := by simp [lits]
  rw [e] at hown; clear e
  have hfr := Fr.of_own (B := w.heap.size) hown hl (Nat.le_refl _) 2 (by simp) (by omega)
  have hrd := hfr.rd
  have ht := Lib.hid ((trim_dig hl).trans (by rw [hv])); clear hv
  rw [Int.toNat_natCast]
  go_enter Tryd.func22, Tryd.ntmps22
  go_wp2_with (go_at_call 29; refine (significant_len _ _ _ _ hrd _ rfl).mono ?_; rintro e w' ⟨rfl, rfl⟩)
  go_ret
  have hfr2 := hfr.trim
  rw [ht.out] at hfr2
  exact ⟨_, 2, ret_len (congrArg List.length ht.out), hfr2, (Below.refl _ _).alloc (Nat.le_refl _) _⟩

/-- Uint's number -/
theorem vl_two (xs : List Nat) : vl xs 2 = lm xs 0 + lm xs 1 * 4294967296 := by
  simp [vl, pw]
theorem vl_trim2 (xs : List Nat) : vl (trim xs) 2 = vl xs 2 := vl_congr _ _ _ (fun j _ => lm_trim xs j)
theorem dig_small {xs : List Nat} (hl : Lims xs) : (2 < (trim xs).length) ↔ 18446744073709551616 ≤ val xs := by
  have h1 := dig_length_le (val xs) 2
  have h2 := dig_length_ge (val xs) 2
  have h3 : pw 2 = 18446744073709551616 := by simp [pw]
  rw [h3] at h1 h2
  rw [trim_dig hl]
  omega

def fits (n : Nat) : Bool := decide (n < 18446744073709551616)
def fitv (n : Nat) : Nat := if n < 18446744073709551616 then n else 0
theorem fits_yes {n : Nat} (h : n < 18446744073709551616) : fits n = true := decide_eq_true h
theorem fits_no {n : Nat} (h : ¬ n < 18446744073709551616) : fits n = false := decide_eq_false h
theorem fitv_yes {n : Nat} (h : n < 18446744073709551616) : ((fitv n : Nat) : Int) = n := congrArg Nat.cast (if_pos h)
theorem fitv_no {n : Nat} (h : ¬ n < 18446744073709551616) : ((fitv n : Nat) : Int) = 0 := congrArg Nat.cast (if_neg h)
theorem ret_ub {a b : Int} {p q : Bool} (h : a = b) (k : p = q) : Ending.returned (.tuple #[.int .u64 a, .bool p]) = .returned (.tuple #[.int .u64 b, .bool q]) := by rw [h, k]

set_option maxHeartbeats 400000 in
theorem Uint_any (ao : Option Addr) (cap : Nat) (xs : List Nat) (w : World) (h : Rd w ao cap xs) :
    Calls Tryd.prog 21 #[.slice ao xs.length cap] w fun e w' => e = .returned (.tuple #[.int .u64 ((fitv (val xs) : Nat) : Int), .bool (fits (val xs))]) ∧ w = w' := by
  have hs := dig_small h.lims
  have h0 := h.lims 0
  have h1 := h.lims 1
  have hm := h.max
  have hle := h.le
  have hl := trim_length_le xs
  by_cases hb : 18446744073709551616 ≤ val xs
  · have hb2 : 2 < (trim xs).length := hs.2 hb
    have e1 := Lib.hid (fits_no (n := val xs) (by omega))
    have e2 := Lib.hid (fitv_no (n := val xs) (by omega))
    clear hs hb
    go_enter Tryd.func21, Tryd.ntmps21
    go_wp2_with (go_at_call 29; refine (significant_any _ _ _ _ h).mono ?_; rintro e w' ⟨rfl, rfl⟩)
    go_ret2
    exact ⟨ret_ub e2.out.symm e1.out.symm, rfl⟩
  · have hb2 : (trim xs).length ≤ 2 := by have := mt hs.1 hb; omega
    have hv : val xs = lm xs 0 + lm xs 1 * 4294967296 := by
      rw [← vl_two, ← vl_trim2 xs, ← val_trim xs]
      exact (vl_ge _ _ hb2).symm
    have e1 := Lib.hid (fits_yes (n := val xs) (by omega))
    have e2 := Lib.hid (fitv_yes (n := val xs) (by omega))
    have hv2 := Lib.hid hv; clear hv
    clear hs hb
    go_enter Tryd.func21, Tryd.ntmps21
    go_wp2_with (first
      | (go_at_call 29; refine (significant_any _ _ _ _ h).mono ?_; rintro e w' ⟨rfl, rfl⟩)
      | (go_at_call 30; refine (limb_any _ _ 1 _ _ h _ (by omega)).mono ?_; rintro e w' ⟨rfl, rfl⟩)
      | (go_at_call 30; refine (limb_any _ _ 0 _ _ h _ (by omega)).mono ?_; rintro e w' ⟨rfl, rfl⟩))
    go_ret2
    refine ⟨ret_ub (?_ : _ = _) e1.out.symm, rfl⟩
    rw [e2.out, hv2.out]
    exact or_join _ _ h1 h0
end Go.Proofs.YtlgcflapgdkghabDoor
