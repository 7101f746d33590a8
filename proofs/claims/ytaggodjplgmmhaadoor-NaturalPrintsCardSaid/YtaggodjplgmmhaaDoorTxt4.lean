/- Contract of the reference's Digits. -/
import Derived.Test.YtaggodjplgmmhaaDoorTxt3
namespace Go.Proofs.YtaggodjplgmmhaaDoor
open Go.RowKit

theorem lit_new (w : World) (x : Nat) (hx : x < 4294967296) : Num (w.alloc (.cells #[.int .u32 (x : Int)] 35)) (some ⟨w.heap.size, 0, none⟩) 1 1 x :=
  ⟨[x], rfl, rd_new w _ [x] rfl (lims_cons hx lims_nil) 1 rfl (by omega), by simp [val], by simp⟩
theorem dv_take_succ {s : ByteArray} {k v : Nat} (h : k < s.size) (hv : s[k].toNat = v + 48) : dv 0 (s.data.toList.take (k + 1)) = dv 0 (s.data.toList.take k) * 10 + v := by
  rw [take_snoc s k h, dv_snoc, hv, Nat.add_sub_cancel]

set_option maxHeartbeats 4000000 in
set_option maxRecDepth 100000 in
theorem Digits_any (s : ByteArray) (w : World) (hs : s.size ≤ 4096) (hd : Digs s.data.toList) : Calls Tryd.prog 35 #[.string s] w (Makes (dv 0 s.data.toList) w) := by
  have HD := Lib.hid hd
  clear hd
  go_enter Tryd.func35, Tryd.ntmps35
  go_wp2_with fail
  go_loopw [3, 7] (fun s3 s7 wr => ∃ (k : Nat) (ao : Option Addr) (c : Nat), k ≤ s.size ∧ s7 = .int .i64 k ∧ s3 = .slice ao (dig (dv 0 (s.data.toList.take k))).length c ∧ Fr w.heap.size wr ao c (dig (dv 0 (s.data.toList.take k))) ∧ Below w.heap.size w wr) (fun _ s7 _ => s.size - (intOf s7).toNat)
  case atStart => exact ⟨0, none, 0, by omega, rfl, rfl, Fr.nil _ _, Below.refl _ _⟩
  case round =>
    obtain ⟨k, ao, c, hk, rfl, rfl, f0, hbl⟩ := hrel
    by_cases hlt : k < s.size
    · have hc2 := HD.out.get k (by rw [size_list]; exact hlt)
      rw [byte_get s k hlt] at hc2
      obtain ⟨v, hv⟩ : ∃ v, s[k].toNat = v + 48 := ⟨s[k].toNat - 48, by omega⟩
      have hvb : v ≤ 9 := by omega
      have hnext := Lib.hid (dv_take_succ hlt hv)
      obtain ⟨D, hD⟩ : ∃ D, D = dv 0 (s.data.toList.take k) := ⟨_, rfl⟩
      have s_D : Sm D 512 := by rw [hD]; exact sm_dv (HD.out.take k) (by rw [List.length_take, size_list]; omega)
      have s_10 : Sm 10 1 := ⟨by rw [pw_succ, pw_zero]; omega, by omega⟩
      have s_v : Sm v 1 := ⟨by rw [pw_succ, pw_zero]; omega, by omega⟩
      have s_p : Sm (D * 10) 513 := s_D.mul s_10 (by omega)
      rw [← hD] at f0 hnext ⊢
      have n0 := Num.of_fr f0 s_D
      clear hD hc2
      have hv32 : v < 4294967296 := by omega
      have bA := below_new wr (.cells #[.int .u32 10] 35)
      have bB := bA.trans ((below_new (wr.alloc (.cells #[.int .u32 10] 35)) (.cells #[.int .u32 (v : Int)] 35)).mono bA.size)
      have bC0 := below_new wr (.cells #[.int .u32 (v : Int)] 35)
      have bC := bC0.trans ((below_new (wr.alloc (.cells #[.int .u32 (v : Int)] 35)) (.cells #[.int .u32 10] 35)).mono bC0.size)
      have tA : Num (wr.alloc (.cells #[.int .u32 10] 35)) (some ⟨wr.heap.size, 0, none⟩) 1 1 10 := lit_new wr 10 (by omega)
      have tB := tA.below (below_new _ (.cells #[.int .u32 (v : Int)] 35))
      have tC : Num ((wr.alloc (.cells #[.int .u32 (v : Int)] 35)).alloc (.cells #[.int .u32 10] 35)) (some ⟨wr.heap.size + 1, 0, none⟩) 1 1 10 := by have := lit_new (wr.alloc (.cells #[.int .u32 (v : Int)] 35)) 10 (by omega); rwa [World.size_alloc] at this
      have vB : Num ((wr.alloc (.cells #[.int .u32 10] 35)).alloc (.cells #[.int .u32 (v : Int)] 35)) (some ⟨wr.heap.size + 1, 0, none⟩) 1 1 v := by have := lit_new (wr.alloc (.cells #[.int .u32 10] 35)) v hv32; rwa [World.size_alloc] at this
      have vC := (lit_new wr v hv32).below (below_new _ (.cells #[.int .u32 10] 35))
      have nA := n0.below bA
      have nB := n0.below bB
      have nC := n0.below bC
      have LA := Lib.hid (And.intro nA tA)
      have LB := Lib.hid (And.intro nB (And.intro tB vB))
      have LC := Lib.hid (And.intro nC (And.intro tC vC))
      have BB := Lib.hid (And.intro bA (And.intro bB bC))
      have hw8 : IntKind.u8.wrap (v : Int) = (v : Int) := by rw [IntKind.wrap_u8']; omega
      have hw32 : IntKind.u32.wrap (v : Int) = (v : Int) := by rw [IntKind.wrap_u32']; omega
      clear nA tA nB tB vB nC tC vC bA bB bC bC0 n0
      go_wp2_with fail
      go_region_with (first
        | (go_at_call 19; refine (rMul_num (by first | exact LA.out.1 | exact LB.out.1 | exact LC.out.1) (by first | exact LA.out.2 | exact LB.out.2.1 | exact LC.out.2.1)).mono ?_; rintro e W2 ⟨a2, c2, rfl, f2, b2⟩)
        | (go_at_call 18; refine (rAdd_num (by first | exact (Num.of_fr f2 s_p) | exact (Num.of_fr f2 s_p).below (below_new _ _)) (by first | exact lit_new W2 v hv32 | exact LB.out.2.2.below ((Below.refl _ _).drew.trans b2) | exact LC.out.2.2.below ((Below.refl _ _).drew.trans b2))).mono ?_; rintro e W5 ⟨a5, c5, rfl, f5, b5⟩))
      all_goals
        have B2 : Below wr.heap.size wr W2 := by
          first
            | exact BB.out.1.trans (((Below.refl _ _).drew.trans b2).mono BB.out.1.size)
            | exact BB.out.2.1.trans (((Below.refl _ _).drew.trans b2).mono BB.out.2.1.size)
            | exact BB.out.2.2.trans (((Below.refl _ _).drew.trans b2).mono BB.out.2.2.size)
        have B5 : Below wr.heap.size wr W5 := by
          first
            | exact B2.trans (b5.mono B2.size)
            | exact B2.trans (((below_new W2 _).trans (b5.mono (below_new W2 _).size)).mono B2.size)
        have F5 : Fr w.heap.size W5 a5 c5 (dig (dv 0 (s.data.toList.take (k + 1)))) := by
          rw [hnext.out]
          first
            | exact f5.mono (Nat.le_trans hbl.size B2.size)
            | exact f5.mono (Nat.le_trans (Nat.le_trans hbl.size B2.size) (below_new W2 _).size)
        clear hw8 hw32 hv
        go_wp2_with fail
        go_roundw
        case rel => exact ⟨k + 1, a5, c5, by omega, by go_num, by rw [hnext.out], F5, hbl.trans (B5.mono hbl.size)⟩
        case measure => simp [intOf]; omega
    · have e : Hid (s.data.toList.take k = s.data.toList) := by show _ = _; rw [List.take_of_length_le (by rw [size_list]; omega)]
      rw [e.out] at f0 ⊢
      go_wp2_with fail
      go_ret
      exact ⟨_, _, rfl, f0, hbl⟩
end Go.Proofs.YtaggodjplgmmhaaDoor
