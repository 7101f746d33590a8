/- Format: the groups of nine digits, and their text. -/
import Derived.Test.YtlgcflapgdkghabDoorNat3
import Derived.Test.YtlgcflapgdkghabDoorFmt
import Derived.Maps.AppendAt
import Derived.Deep.LoopGhost
namespace Go.Proofs.YtlgcflapgdkghabDoor
open Go.RowKit

/-- the digits of a number in base 10^9, the lowest one first -/
def gpf : Nat → Nat → List Nat
  | 0, _ => []
  | f + 1, n => if n = 0 then [] else n % 1000000000 :: gpf f (n / 1000000000)
def gp (n : Nat) : List Nat := gpf n n
theorem gpf_fuel (f g n : Nat) (hf : n ≤ f) (hg : n ≤ g) : gpf f n = gpf g n := by
  induction f generalizing g n with
  | zero =>
    have : n = 0 := by omega
    subst this
    cases g <;> simp [gpf]
  | succ f ih =>
    cases g with
    | zero =>
      have : n = 0 := by omega
      subst this; simp [gpf]
    | succ g =>
      rw [gpf, gpf]
      by_cases h : n = 0
      · simp [h]
      · rw [if_neg h, if_neg h, ih g _ (by omega) (by omega)]
theorem gp_zero : gp 0 = [] := rfl
theorem gp_pos (n : Nat) (h : 0 < n) : gp n = n % 1000000000 :: gp (n / 1000000000) := by
  unfold gp
  obtain ⟨m, rfl⟩ : ∃ m, n = m + 1 := ⟨n - 1, by omega⟩
  rw [gpf, if_neg (by omega), gpf_fuel m ((m + 1) / 1000000000) _ (by omega) (by omega)]
theorem gp_length (k n : Nat) (h : n < pw k) : (gp n).length ≤ 2 * k := by
  induction k generalizing n with
  | zero => rw [pw_zero] at h; rw [show n = 0 by omega]; exact Nat.le_refl _
  | succ k ih =>
    by_cases h0 : n = 0
    · subst h0; simp [gp_zero]
    · by_cases h1 : n / 1000000000 = 0
      · rw [gp_pos n (by omega), h1, gp_zero]; simp; omega
      · rw [gp_pos n (by omega), gp_pos _ (by omega), List.length_cons, List.length_cons]
        rw [pw_succ] at h
        have := ih (n / 1000000000 / 1000000000) (by omega)
        omega
theorem lims_gp (n : Nat) : ∀ x ∈ gp n, x < 1000000000 := by
  induction n using Nat.strongRecOn with
  | _ n ih =>
    by_cases h : n = 0
    · subst h; intro x hx; cases hx
    · rw [gp_pos n (by omega)]
      intro x hx
      rcases List.mem_cons.1 hx with rfl | hx
      · omega
      · exact ih _ (by omega) x hx
theorem lims_of_mem {xs : List Nat} (h : ∀ x ∈ xs, x < 4294967296) : Lims xs := by
  intro i
  by_cases hi : i < xs.length
  · rw [lm_get xs i hi]; exact h _ (List.getElem_mem hi)
  · rw [lm_ge xs i (by omega)]; omega
theorem lits_append (xs ys : List Nat) : lits (xs ++ ys) = lits xs ++ lits ys := List.map_append ..

set_option maxHeartbeats 1000000 in
set_option maxRecDepth 100000 in
theorem decimalGroups_any (ao : Option Addr) (cap : Nat) (xs : List Nat) (w : World) (h : Rd w ao cap xs) (hb : xs.length ≤ 1099511627776) :
    Calls Tryd.prog 37 #[.slice ao xs.length cap] w fun e w' => ∃ ao' cap', e = .returned (.slice ao' (gp (val xs)).length cap') ∧ Fr w.heap.size w' ao' cap' (gp (val xs)) ∧ Below w.heap.size w w' := by
  obtain ⟨N, hN⟩ : ∃ N, N = val xs := ⟨_, rfl⟩
  have hlenN : (gp N).length ≤ 2 * xs.length := gp_length _ _ (by rw [hN]; exact val_lt h.lims)
  rw [← hN]
  have hNh := Lib.hid hN
  clear hN
  obtain ⟨i0, hi, hz0, hz1, hz2⟩ := info_parts infoU32
  go_enter Tryd.func37, Tryd.ntmps37
  go_wp2_with fail
  refine (Trim_any _ _ _ _ h hb).mono ?_
  rintro e w1 ⟨ao1, cap1, rfl, hf1, hb1⟩
  rw [← hNh.out] at hf1 ⊢
  have hsz1 := hb1.size
  go_wp2_with fail
  go_loopg [3, 4] N (fun gk s3 s4 wr => ∃ (gs rs : List Nat), s4 = .slice ao1 rs.length cap1 ∧ Fr w.heap.size wr ao1 cap1 rs ∧ gk ≤ N ∧ Hid (val rs = gk) ∧ Hid (rs = dig gk) ∧ wr.ownsRow w.heap.size 31 1 s3 gs.length (lits gs) ∧
      Hid (gs ++ gp gk = gp N) ∧ Hid (∀ g a, s3.ownBlock = some g → ao1 = some a → a.block ≠ g) ∧ Below w.heap.size w wr)
  case atStart => exact ⟨[], dig N, rfl, hf1, Nat.le_refl _, val_dig N, rfl, World.ownsRow_nil _ _ _ _, rfl, (by intro g a hg; cases hg), hb1⟩
  case round =>
    obtain ⟨gs, rs, rfl, hfr, hle, hv, hdig, hown, hgs, hne, hbl⟩ := hrel
    have hsz := hbl.size
    have hgl : gs.length ≤ 2 * xs.length := by
      have := congrArg List.length hgs.out; rw [List.length_append] at this; omega
    have hrl : rs.length ≤ xs.length := by
      have h1 : rs.length = (dig gk).length := congrArg List.length hdig.out
      have h2 := dig_mono hle
      have h3 : (dig N).length ≤ xs.length := by rw [hNh.out]; exact dig_length_val h.lims
      omega
    by_cases hpos : 0 < rs.length
    · have hgk : 0 < gk := by
        rcases Nat.eq_zero_or_pos gk with e | e
        · have h1 := congrArg List.length hdig.out
          rw [e] at h1
          have h2 : (dig 0).length = 0 := rfl
          omega
        · exact e
      go_wp2_with fail
      refine (divideInPlace_any w.heap.size ao1 cap1 1000000000 rs wr hfr (by omega) (by omega) (by omega) hsz).mono ?_
      rintro e w2 ⟨ys, rfl, k1, k2, k3, k4, k5, k6⟩
      have K1 := Lib.hid k1
      have K2 := Lib.hid k2
      have K6 := Lib.hid k6
      have hsz2 : w.heap.size ≤ w2.heap.size := by omega
      clear k1 k2 k6
      have hown2 : w2.ownsRow w.heap.size 31 1 u3 gs.length (lits gs) := hown.kept k4 (by
        cases hob : u3.ownBlock with
        | none => exact .inl rfl
        | some g =>
          right
          cases ao1 with
          | none => simp
          | some a => intro e; exact hne.out g a hob rfl (by simpa using e.symm))
      obtain ⟨r, hr⟩ : ∃ r, r = val rs % 1000000000 := ⟨_, rfl⟩
      rw [← hr]
      have hr2 : r < 1000000000 := by omega
      have R := Lib.hid hr
      clear hr
      go_wp2_with (at_builtin; refine wpList_append_own_at _ rfl _ _ 22 rfl w.heap.size 31 i0 (.int .u32 0) 1 4 Tryd.underlying22 hi hz0 hz1 hz2 rfl (by omega) _ _ _ rfl (hown2.alloc _) ⟨w2.heap.size, 0, none⟩ 1 1 [.int .u32 ((r : Nat) : Int)] rfl rfl (cell_one_new _ _ _) (by intro u hu; simp at hu; subst hu; rfl) (by unfold maxLen; omega) (by omega) (by simp; omega) ?_)
      intro v' w3 hown3 hgr3 _ hloc
      have hl3 : ∀ a, ao1 = some a → some a.block ≠ u3.ownBlock := fun a ha e => hne.out a.block a e.symm ha rfl
      have hf3 : Fr w.heap.size w3 ao1 cap1 ys := (k3.alloc _).grown hgr3 hl3
      have hb3 : Below w.heap.size w w3 := ((hbl.trans k5).alloc hsz2 _).grown hgr3 (by simp; omega) (fun k hk => (hown2.lt k hk).1)
      have hne3 : Hid (∀ g a, v'.ownBlock = some g → ao1 = some a → a.block ≠ g) := fun g a hg ha e => by
        rcases hloc with hl | hl
        · exact hne.out g a (hl ▸ hg) ha e
        · rw [hl] at hg
          cases hg
          subst ha
          have := k3.block_lt.2
          omega
      have hown4 : w3.ownsRow w.heap.size 31 1 v' (gs ++ [r]).length (lits (gs ++ [r])) := by rw [lits_append, List.length_append]; exact hown3
      clear hloc hown3 hgr3 hl3
      go_wp2_with fail
      refine (significant_len _ _ _ _ hf3.rd _ K1.out.symm).mono ?_; rintro e w' ⟨rfl, rfl⟩
      go_wp2_with fail
      have ht : trim ys = dig (gk / 1000000000) := by rw [trim_dig hf3.lims, K2.out, hv.out]
      go_roundg (gk / 1000000000)
      case measure => omega
      case rel => exact ⟨gs ++ [r], trim ys, rfl, hf3.trim, by omega, by show _ = _; rw [val_trim, K2.out, hv.out], ht, hown4, by
        show _ = _
        rw [← hgs.out, gp_pos gk hgk, R.out, hv.out, List.append_assoc]; rfl, hne3, hb3⟩
    · have h0 : Hid (gs = gp N) := by
        have h1 := congrArg List.length hdig.out
        have h2 : gk = 0 := by
          rcases Nat.eq_zero_or_pos gk with e | e
          · exact e
          · have := dig_length_pos e; omega
        show _ = _
        rw [← hgs.out, h2, gp_zero, List.append_nil]
      have hl : Lims gs := lims_of_mem (fun x hx => by have := lims_gp N x (h0.out ▸ hx); omega)
      obtain ⟨ao', cap', rfl, hf, _⟩ := Fr.of_row hown hl
      go_wp2
      go_ret
      rw [h0.out] at hf
      exact ⟨ao', cap', ret_len (congrArg List.length h0.out), hf, hbl⟩
end Go.Proofs.YtlgcflapgdkghabDoor
