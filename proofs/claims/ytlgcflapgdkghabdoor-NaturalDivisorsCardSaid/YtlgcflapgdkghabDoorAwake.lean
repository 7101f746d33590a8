/- The laws' sanity check holds; what the laws themselves share. -/
import Derived.Test.YtlgcflapgdkghabDoorRef2
import Derived.Test.YtlgcflapgdkghabDoorFormat
namespace Go.Proofs.YtlgcflapgdkghabDoor
open Go.RowKit

/-- Divide where the divisor has at most one limb -/
theorem Divide_small (ao bo : Option Addr) (ca cb : Nat) (xs ys : List Nat) (w : World) (ha : Rd w ao ca xs) (hb : Rd w bo cb ys) (hp : 0 < val ys) (h1 : (trim ys).length ≤ 1) (hx : xs.length ≤ 1099511627776) :
    Calls Tryd.prog 16 #[.slice ao xs.length ca, .slice bo ys.length cb] w (DivPost (val xs) (val ys) w) := by
  have h2 : (trim ys).length = 1 := by
    rcases Nat.eq_zero_or_pos (trim ys).length with e | e
    · have := trim_nil_val e; omega
    · omega
  rcases Nat.lt_or_ge (trim xs).length (trim ys).length with h | h
  · exact Divide_less ao bo ca cb xs ys w ha hb h hx
  · exact Divide_one ao bo ca cb xs ys w ha hb h2 (by omega) hx

theorem rd_new (w : World) (cs : Array Value) (xs : List Nat) (e : cs = (lits xs).toArray) (hl : Lims xs) (cap : Nat) (hc : cap = xs.length) (hb : cap ≤ 9223372036854775807) :
    Rd (w.alloc (.cells cs 31)) (some ⟨w.heap.size, 0, none⟩) cap xs := by
  subst e; subst hc
  exact (Own.new w xs).rd hl _ (Nat.le_refl _) hb

theorem dec_big_num : Lib.decDigits 4294967296 = [52, 50, 57, 52, 57, 54, 55, 50, 57, 54] := by
  repeat (rw [dec_big (by omega)])
  rw [dec_small (by omega)]
  rfl

set_option maxHeartbeats 2000000 in
set_option maxRecDepth 100000 in
theorem awake_any (w : World) (htab : Tab w) : Calls Tryd.prog 12 #[] w fun e w' => e = .returned (.bool true) ∧ Below w.heap.size w w' := by
  have l7 : Lims [7] := lims_cons (by omega) lims_nil
  have l2 : Lims [2] := lims_cons (by omega) lims_nil
  have hb1 : Below w.heap.size w (w.alloc (.cells #[.int .u32 7] 31)) := (Below.refl _ _).alloc (Nat.le_refl _) _
  have r7 := rd_new w #[.int .u32 7] [7] rfl l7 1 rfl (by omega)
  have r2 := rd_new (w.alloc (.cells #[.int .u32 7] 31)) #[.int .u32 2] [2] rfl l2 1 rfl (by omega)
  have r7' := r7.alloc (.cells #[.int .u32 2] 31)
  have hb2 := hb1.alloc (by simp) (.cells #[.int .u32 2] 31)
  rw [World.size_alloc] at r2
  have hdiv := Divide_small _ _ _ _ [7] [2] _ r7' r2 (by decide) (by decide) (by decide)
  go_enter Tryd.func12, Tryd.ntmps12
  go_wp2_with fail
  refine hdiv.mono ?_
  rintro e w1 ⟨qo, qc, ro, rc, rfl, hq, hr, hb3⟩
  have e3 : dig (val [7] / val [2]) = [3] := by simp [val, dig, dg]
  have e1 : dig (val [7] % val [2]) = [1] := by simp [val, dig, dg]
  rw [e3] at hq ⊢
  rw [e1] at hr ⊢
  clear e3 e1 hdiv r7 r2 r7'
  have hs1 := hb3.size
  have hb4 : Below w.heap.size w w1 := hb2.trans (hb3.mono (by simp; omega))
  have s1 := rd_new w1 #[.int .u32 3] [3] rfl (lims_cons (by omega) lims_nil) 1 rfl (by omega)
  have hb5 := hb4.alloc hb4.size (.cells #[.int .u32 3] 31)
  have q1 := (hq.alloc (.cells #[.int .u32 3] 31)).rd
  go_wp2_with fail
  refine (Same_eq _ _ _ _ [3] _ q1 s1).mono ?_
  rintro e w2 ⟨rfl, hb6⟩
  have hr2 := (hr.alloc (.cells #[.int .u32 3] 31)).below hb6
  have hb7 : Below w.heap.size w w2 := hb5.trans (hb6.mono hb5.size)
  have s2 := rd_new w2 #[.int .u32 1] [1] rfl (lims_cons (by omega) lims_nil) 1 rfl (by omega)
  have hb8 := hb7.alloc hb7.size (.cells #[.int .u32 1] 31)
  have r1 := (hr2.alloc (.cells #[.int .u32 1] 31)).rd
  go_wp2_with fail
  refine (Same_eq _ _ _ _ [1] _ r1 s2).mono ?_
  rintro e w3 ⟨rfl, hb9⟩
  have hb10 : Below w.heap.size w w3 := hb8.trans (hb9.mono hb8.size)
  have s3 := rd_new w3 #[.int .u32 0, .int .u32 1] [0, 1] rfl (lims_cons (by omega) (lims_cons (by omega) lims_nil)) 2 rfl (by omega)
  have hb11 := hb10.alloc hb10.size (.cells #[.int .u32 0, .int .u32 1] 31)
  have ht3 := htab.below hb11
  have hfm := Format_any _ _ [0, 1] _ s3 (by decide) ht3
  rw [show val [0, 1] = 4294967296 by simp [val], dec_big_num] at hfm
  go_wp2_with fail
  refine hfm.mono ?_
  rintro e w4 ⟨rfl, hb12⟩
  go_wp2
  go_ret
  exact ⟨rfl, hb11.trans (hb12.mono hb11.size)⟩
end Go.Proofs.YtlgcflapgdkghabDoor
