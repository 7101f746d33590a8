import Derived.Test.YtdcnkebcpaelpaaGreatDoorDiv3
import Derived.Test.YtdcnkebcpaelpaaGreatDoorAwake
import Derived.Test.YtdcnkebcpaelpaaGreatDoorNums
/- Contract of natural.Divide, for every divisor above 0. -/
namespace Go.Proofs.YtdcnkebcpaelpaaGreatDoor
open Go.RowKit

set_option maxHeartbeats 1000000 in
set_option maxRecDepth 100000 in
theorem Divide_long (ao bo : Option Addr) (ca cb : Nat) (xs ys : List Nat) (w : World) (ha : Rd w ao ca xs) (hb : Rd w bo cb ys) (h2 : 2 ≤ (trim ys).length) (hle : (trim ys).length ≤ (trim xs).length) (hx : xs.length ≤ 549755813888) :
    Calls Tryz.prog 38 #[.slice ao xs.length ca, .slice bo ys.length cb] w (DivPost (val xs) (val ys) w) := by
  have hl := trim_length_le xs
  have hl2 := trim_length_le ys
  have hma := ha.max
  have hla := ha.le
  have hmb := hb.max
  have hlb := hb.le
  obtain ⟨zs, hz⟩ : ∃ zs, zs = trim ys := ⟨_, rfl⟩
  obtain ⟨us, hu⟩ : ∃ us, us = trim xs := ⟨_, rfl⟩
  have hau : Rd w ao ca us := by rw [hu]; exact ha.trim
  have hbz : Rd w bo cb zs := by rw [hz]; exact hb.trim
  have hvu : Hid (val us = val xs) := by show _ = _; rw [hu, val_trim]
  have hvz : Hid (val zs = val ys) := by show _ = _; rw [hz, val_trim]
  have hct := canon_trim ys
  rw [← hz] at h2 hle hl2 hct
  rw [← hu] at hle hl
  obtain ⟨k, hk⟩ : ∃ k, zs.length = k + 2 := ⟨zs.length - 2, by omega⟩
  have htop : 0 < lm zs (k + 1) := by
    rcases hct with e | e
    · rw [e] at hk; simp at hk
    · rw [hk] at e; exact Nat.pos_of_ne_zero e
  have U := Lib.hid hu
  have Z := Lib.hid (hz.symm)
  have hcall := divideLong_any ao bo ca cb k us zs w hau hbz hk (by omega) htop (by omega)
  rw [hvu.out, hvz.out] at hcall
  have C := Lib.hid hcall
  have hku : k + 2 ≤ us.length := by omega
  have HK := Lib.hid hk
  rw [hk] at hl2
  clear hu hz hct htop hcall h2 hle hk
  go_enter Tryz.func38, Tryz.ntmps38
  go_wp2_with fail
  refine (significant_any _ _ _ _ ha).mono ?_; rintro e w' ⟨rfl, rfl⟩
  rw [← U.out]
  go_wp2_with fail
  refine (significant_any _ _ _ _ hb).mono ?_; rintro e w' ⟨rfl, rfl⟩
  rw [Z.out, HK.out]
  go_wp2_with fail
  refine C.out.mono ?_; rintro e w1 ⟨qo, qc, ro, rc, rfl, f1, f2, b1⟩
  go_wp2_with fail
  go_ret3
  exact ⟨qo, qc, ro, rc, rfl, f1, f2, b1⟩

theorem Divide_any (ao bo : Option Addr) (ca cb : Nat) (xs ys : List Nat) (w : World) (ha : Rd w ao ca xs) (hb : Rd w bo cb ys) (hp : 0 < val ys) (hx : xs.length ≤ 549755813888) :
    Calls Tryz.prog 38 #[.slice ao xs.length ca, .slice bo ys.length cb] w (DivPost (val xs) (val ys) w) := by
  rcases Nat.lt_or_ge 1 (trim ys).length with h2 | h2
  · rcases Nat.lt_or_ge (trim xs).length (trim ys).length with h | h
    · exact Divide_less ao bo ca cb xs ys w ha hb h (by omega)
    · exact Divide_long ao bo ca cb xs ys w ha hb h2 h hx
  · exact Divide_small ao bo ca cb xs ys w ha hb hp h2 (by omega)
theorem Divide_num {ao bo : Option Addr} {n m ca cb N M : Nat} {w : World} (ha : Num w ao n ca N) (hb : Num w bo m cb M) (hp : 0 < M) : Calls Tryz.prog 38 #[.slice ao n ca, .slice bo m cb] w (DivPost N M w) := by
  obtain ⟨xs, rfl, h1, rfl, h2⟩ := ha
  obtain ⟨ys, rfl, h3, rfl, h4⟩ := hb
  exact Divide_any ao bo ca cb xs ys w h1 h3 hp h2
theorem Divide_zero_num {ao bo : Option Addr} {n m ca cb N M : Nat} {w : World} (ha : Num w ao n ca N) (hb : Num w bo m cb M) (hp : M = 0) : Calls Tryz.prog 38 #[.slice ao n ca, .slice bo m cb] w fun e w' => e = .returned (.tuple #[.slice none 0 0, .slice none 0 0, .bool false]) ∧ w = w' := by
  obtain ⟨xs, rfl, h1, rfl, h2⟩ := ha
  obtain ⟨ys, rfl, h3, rfl, h4⟩ := hb
  exact Divide_zero ao bo ca cb xs ys w h1 h3 hp
end Go.Proofs.YtdcnkebcpaelpaaGreatDoor
