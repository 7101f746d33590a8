import Derived.Test.YtkodfmpaeemaiaaDoorCls18
/- Package classification: the reference's known. -/
namespace Go.Proofs.YtkodfmpaeemaiaaDoor.C6
open Go.RowKit Go.Sort

set_option maxHeartbeats 4000000 in
set_option maxRecDepth 100000 in
theorem known_v (nm : ByteArray) (ao : Option Addr) (cap : Nat) (l : List ByteArray) (u : ByteArray) (w : World) (h : RdS w ao cap l) (hl : l.length ≤ 1000) (hsz : ∀ s ∈ l, s.size ≤ 1000) :
    Calls Tryd.prog 33 #[.agg #[.string nm, .slice ao l.length cap], .string u] w fun e w' => e = .returned (.bool (kn l u)) ∧ Below w.heap.size w w' := by
  obtain ⟨n, hn⟩ : ∃ n, n = l.length := ⟨_, rfl⟩
  have b1 := below_new w (.cells #[.string nm, .slice ao l.length cap] 24)
  have k1 := Cls.new w nm ao l.length cap
  obtain ⟨W1, hW1⟩ : ∃ W1, W1 = w.alloc (.cells #[.string nm, .slice ao l.length cap] 24) := ⟨_, rfl⟩
  rw [← hW1] at b1 k1
  obtain ⟨g, hg⟩ : ∃ g, g = w.heap.size := ⟨_, rfl⟩
  rw [← hg] at k1
  have hV := fun w h => rValidate_v nm ao cap l w h hsz
  have hC := fun w h => has_v ao cap l u w h hl
  rw [← hn] at hl hW1 k1 hV hC ⊢
  obtain ⟨vv, hvv⟩ : ∃ v, v = val l := ⟨_, rfl⟩
  obtain ⟨cc, hcc⟩ : ∃ c, c = Lib.containsS l u := ⟨_, rfl⟩
  rw [← hvv] at hV
  rw [← hcc] at hC
  have HV := Lib.hid hV
  have HC := Lib.hid hC
  have HB1 := Lib.hid b1
  have HK1 := Lib.hid k1
  have HR1 := Lib.hid (h.below b1)
  have HKN : Hid (kn l u = ((vv == 0) && (u.toList.isEmpty || cc))) := by unfold Hid kn; rw [← hvv, ← hcc]
  have q0 := k1.c0
  have q1 := k1.c1
  clear b1 k1 h hn hV hC hvv hcc hsz
  go_enter Tryd.func33, Tryd.ntmps33
  go_wp2_with fail
  rw [← hW1, ← hg]
  clear hW1 hg
  refine (HV.out _ HR1.out).mono ?_; rintro e w2 ⟨rfl, b2⟩
  have HB2 := Lib.hid (HB1.out.trans (b2.mono HB1.out.size))
  have HR2 := Lib.hid (HR1.out.below b2)
  have q2 := (HK1.out.below b2).c1
  clear b2 q0 q1
  by_cases hv0 : vv = 0
  · have e1 : (vv == 0) = true := beq_iff_eq.2 hv0
    clear hv0
    cases hu : u.toList.isEmpty
    · have HKT : Hid (cc = kn l u) := by unfold Hid; rw [HKN.out, e1, hu]; simp
      go_wp2_with fail
      refine (HC.out _ HR2.out).mono ?_; rintro e w3 ⟨rfl, rfl⟩
      go_wp2_with fail
      go_ret
      exact ⟨ret_bool HKT.out, HB2.out⟩
    · have HKT : Hid (true = kn l u) := by unfold Hid; rw [HKN.out, e1, hu]; simp
      go_wp2_with fail
      go_ret
      exact ⟨ret_bool HKT.out, HB2.out⟩
  · have e1 : (vv == 0) = false := beq_eq_false_iff_ne.2 hv0
    have HKF : Hid (false = kn l u) := by unfold Hid; rw [HKN.out, e1]; rfl
    clear hv0
    go_wp2_with fail
    go_ret
    exact ⟨ret_bool HKF.out, HB2.out⟩
end Go.Proofs.YtkodfmpaeemaiaaDoor.C6
