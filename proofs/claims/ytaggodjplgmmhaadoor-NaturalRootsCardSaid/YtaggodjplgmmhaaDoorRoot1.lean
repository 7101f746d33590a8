/- Contract of natural.newton. -/
import Derived.Test.YtaggodjplgmmhaaDoorRootM
import Derived.Test.YtaggodjplgmmhaaDoorPow1
import Derived.Test.YtaggodjplgmmhaaDoorShl
import Derived.Deep.LoopGhost
namespace Go.Proofs.YtaggodjplgmmhaaDoor
open Go.RowKit

/-- what a root gives -/
def RootPost (B N k : Nat) (w : World) (e : Ending) (w' : World) : Prop := ∃ R ao c, e = .returned (.slice ao (dig R).length c) ∧ Fr B w' ao c (dig R) ∧ Below w.heap.size w w' ∧ IsRoot N k R
theorem FromUint_v (v : Nat) (i : Int) (hi : i = (v : Int)) (h : v < 18446744073709551616) (w : World) : Calls Tryd.prog 43 #[.int .u64 i] w (Makes v w) := by
  subst hi
  have := FromUint_any (v : Int) (by omega) (by omega) w
  rwa [Int.toNat_natCast] at this
theorem power_v {ao : Option Addr} {n ca N k K : Nat} {w : World} (i : Int) (hi : i = (k : Int)) (ha : Num w ao n ca N) (hk : k < 9223372036854775808) (hs : Sm (N ^ k + 1) K) : Calls Tryd.prog 53 #[.slice ao n ca, .int .i64 i] w (Makes (N ^ k) w) := by
  subst hi; exact power_num ha hk hs
theorem divIP_v (B : Nat) (ao : Option Addr) (cap d N : Nat) (i : Int) (hi : i = (d : Int)) (w : World) (h : Fr B w ao cap (dig N)) (hd : 0 < d) (hd2 : d < 4294967296) (hb : (dig N).length ≤ 1099511627776) (hB : B ≤ w.heap.size) :
    Calls Tryd.prog 42 #[.slice ao (dig N).length cap, .int .u32 i] w fun e w' => ∃ ys : List Nat, e = .returned (.int .u32 ((N % d : Nat) : Int)) ∧ ys.length = (dig N).length ∧ val ys = N / d ∧
      Fr B w' ao cap ys ∧ w.grownBy w' (ao.map (·.block)) ∧ Below B w w' ∧ w'.heap.size = w.heap.size := by
  subst hi
  have := divideInPlace_any B ao cap d (dig N) w h hd hd2 hb hB
  rwa [val_dig] at this

set_option maxHeartbeats 4000000 in
set_option maxRecDepth 100000 in
theorem newton_any {B : Nat} {ao so : Option Addr} {n ca sc N S k L : Nat} {w : World} (ha : Num w ao n ca N) (hS : Fr B w so sc (dig S)) (hB : B ≤ w.heap.size) (hk : k ≤ 1023) (hab : Above N (k + 1) S) (hS0 : 0 < S) (hsL : Sm (S ^ (k + 1) + 1) L) (hL : L ≤ 1000000) (sN : Sm N L) (hN : 0 < N) :
    Calls Tryd.prog 74 #[.slice ao n ca, .int .i64 ((k : Int) + 1), .slice so (dig S).length sc] w (RootPost B N (k + 1) w) := by
  have s_S : Sm S L := Sm.of_le hsL (by have := Nat.le_self_pow (n := k + 1) (by omega) S; omega)
  go_enter Tryd.func74, Tryd.ntmps74
  go_wp2_with fail
  go_loopg [7] S (fun g s7 wr => ∃ (R : Nat) (a7 : Option Addr) (c7 : Nat), s7 = .slice a7 (dig R).length c7 ∧ Fr B wr a7 c7 (dig R) ∧ Above N (k + 1) R ∧ 0 < R ∧ R ≤ S ∧ g = R ∧ Below w.heap.size w wr)
  case atStart => exact ⟨S, so, sc, rfl, hS, hab, hS0, Nat.le_refl _, rfl, Below.refl _ _⟩
  case round =>
    obtain ⟨R, a7, c7, rfl, f7, habR, hR0, hRS, hgR, hbl⟩ := hrel
    have GR := Lib.hid hgR
    have HAB := Lib.hid habR
    have HR0 := Lib.hid hR0
    have HRS := Lib.hid hRS
    have s_R : Sm R L := Sm.of_le s_S hRS
    have hRk : R ^ (k + 1) ≤ S ^ (k + 1) := Nat.pow_le_pow_left hRS _
    have s_1 : Sm (R ^ k + 1) L := by
      refine Sm.of_le hsL ?_
      have := Nat.pow_le_pow_right hR0 (show k ≤ k + 1 by omega); omega
    have s_p : Sm (R ^ k) L := Sm.of_le s_1 (by omega)
    have hPp : 0 < R ^ k := Nat.pow_pos hR0
    have HP := Lib.hid hPp
    have na := ha.below hbl
    have n7 := Num.of_fr f7 s_R
    have hBr := Nat.le_trans hB hbl.size
    have s_q : Sm (N / R ^ k) L := Sm.of_le sN (Nat.div_le_self _ _)
    have s_k : Sm k 1 := ⟨by rw [pw_succ, pw_zero]; omega, by omega⟩
    clear hgR habR hR0 hRS hRk hPp hab hS0 hS
    go_wp2_with fail
    refine (power_v (k := k) _ (by omega) n7 (by omega) s_1).mono ?_; rintro e w1 ⟨a1, c1, rfl, f1, b1⟩
    replace na := na.below b1
    replace f7 := f7.below b1
    have n1 := Num.of_fr f1 s_p
    have B1 := hbl.trans (b1.mono hbl.size)
    have n7' := Num.of_fr f7 s_R
    go_wp2_with fail
    refine (Divide_num na n1 HP.out).mono ?_; rintro e w2 ⟨a2, c2, a3, c3, rfl, f2, f3, b2⟩
    have B2 := B1.trans (b2.mono B1.size)
    replace f7 := f7.below b2
    clear n1 f1 f3 na n7 n7'
    go_wp2_with fail
    refine (FromUint_v k _ (by omega) (by omega) _).mono ?_; rintro e w4 ⟨a4, c4, rfl, f4, b4⟩
    have B4 := B2.trans (b4.mono B2.size)
    replace f7 := f7.below b4
    replace f2 := f2.below b4
    have n7 := Num.of_fr f7 s_R
    have n4 := Num.of_fr f4 s_k
    go_wp2_with fail
    refine (Mul_num n7 n4).mono ?_; rintro e w5 ⟨a5, c5, rfl, f5, b5⟩
    have B5 := B4.trans (b5.mono B4.size)
    replace f7 := f7.below b5
    replace f2 := f2.below b5
    have s_5 := s_R.mul s_k (by omega)
    have n5 := Num.of_fr f5 s_5
    have n2 := Num.of_fr f2 s_q
    go_wp2_with fail
    refine (Add_num n5 n2).mono ?_; rintro e w6 ⟨a6, c6, rfl, f6, b6⟩
    have B6 := B5.trans (b6.mono B5.size)
    have s_6 := s_5.add s_q (by omega)
    have hw5 : w5.heap.size ≤ w6.heap.size := b6.size
    have hlen6 : (dig (R * k + N / R ^ k)).length ≤ 1099511627776 := Nat.le_trans s_6.len (by omega)
    clear n7 n4 n5 n2 f5 f4 f2
    go_wp2_with fail
    refine (divIP_v w5.heap.size a6 c6 (k + 1) _ _ (by omega) w6 f6 (by omega) (by omega) hlen6 hw5).mono ?_; rintro e w8 ⟨ys, rfl, k1, k2, k3, k4, k5, k6⟩
    have K1 := Lib.hid k1
    have b8 := b6.trans k5
    have B8 := B5.trans (b8.mono B5.size)
    replace f7 := f7.below b8
    obtain ⟨Q, hQ⟩ : ∃ Q, Q = (R * k + N / R ^ k) / (k + 1) := ⟨_, rfl⟩
    have s_Q : Sm Q (L + 1 + L + 1) := Sm.of_le s_6 (by rw [hQ]; exact Nat.div_le_self _ _)
    have ht : trim ys = dig Q := by rw [trim_dig k3.lims, k2, hQ]
    have f8 : Fr B w8 a6 c6 (dig Q) := by rw [← ht]; exact k3.trim.mono (Nat.le_trans hB B5.size)
    have hnx : Above N (k + 1) Q := by rw [hQ]; exact Above.next HR0.out
    have hst : R ≤ Q → IsRoot N (k + 1) R := fun h => newton_stop HAB.out HR0.out (hQ ▸ h)
    have hQ0 : 0 < Q := by
      have := hnx 1 (by rw [Nat.one_pow]; exact hN)
      omega
    have HNX := Lib.hid hnx
    have HST := Lib.hid hst
    have HQ0 := Lib.hid hQ0
    have n8 := Num.of_fr f8 s_Q
    have n7 := Num.of_fr f7 s_R
    have hcm : Hid (cmpn Q R < 0 ∧ Q < R ∨ ¬ cmpn Q R < 0 ∧ R ≤ Q) := by
      rcases Nat.lt_trichotomy Q R with e | e | e
      · left; rw [cmpn_lt e]; exact ⟨by omega, e⟩
      · right; rw [cmpn_eq e]; exact ⟨by omega, by omega⟩
      · right; rw [cmpn_gt e]; exact ⟨by omega, by omega⟩
    obtain ⟨c, hc⟩ : ∃ c, cmpn Q R = c := ⟨_, rfl⟩
    clear hQ hnx hst hQ0 k1 k2 k4 k6 b8
    go_wp2_with fail
    refine (significant_len _ _ _ _ k3.rd _ K1.out.symm).mono ?_; rintro e w' ⟨rfl, rfl⟩
    rw [ht]
    clear ht k3
    go_wp2_with fail
    refine (Compare_num n8 n7).mono ?_; rintro e w' ⟨rfl, rfl⟩
    rw [hc]
    rw [hc] at hcm
    by_cases hcc : c < 0
    · have hlt : Q < R := by rcases hcm.out with h | h <;> omega
      have HLT := Lib.hid hlt
      clear hcm hc hlt
      go_wp2_with fail
      go_roundg Q
      case measure => have := HLT.out; have := GR.out; omega
      case rel => exact ⟨Q, a6, c6, rfl, f8, HNX.out, HQ0.out, by have := HLT.out; have := HRS.out; omega, rfl, B8⟩
    · have hle : R ≤ Q := by rcases hcm.out with h | h <;> omega
      have HLE := Lib.hid hle
      clear hcm hc hle
      go_wp2_with fail
      go_ret
      exact ⟨R, a7, c7, rfl, f7, B8, HST.out HLE.out⟩
end Go.Proofs.YtaggodjplgmmhaaDoor
