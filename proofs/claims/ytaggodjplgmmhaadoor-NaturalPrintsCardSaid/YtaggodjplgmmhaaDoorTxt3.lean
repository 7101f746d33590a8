/- Contract of natural.Parse. -/
import Derived.Test.YtaggodjplgmmhaaDoorTxt2
import Derived.Deep.LoopGhost
import Derived.Deep.RegionWith
namespace Go.Proofs.YtaggodjplgmmhaaDoor
open Go.RowKit

theorem FromUint_num (v : Nat) (i : Int) (hi : i = (v : Int)) (h : v < 18446744073709551616) (w : World) : Calls Tryd.prog 43 #[.int .u64 i] w (Makes v w) := by
  subst hi
  have := FromUint_any (v : Int) (by omega) (by omega) w
  rwa [Int.toNat_natCast] at this
theorem list_take (t : ByteArray) (g : Nat) : (t.extract 0 g).data.toList = t.data.toList.take g := by simp
theorem list_drop (t : ByteArray) (g : Nat) : (t.extract g t.size).data.toList = t.data.toList.drop g := by
  simp only [ByteArray.data_extract, Array.toList_extract]
  rw [List.extract_eq_take_drop, List.take_of_length_le]
  rw [List.length_drop, size_list]; exact Nat.le_refl _
theorem sm_dv {d : List UInt8} (h : Digs d) (hl : d.length ≤ 4096) : Sm (dv 0 d) 512 := by
  refine ⟨?_, by omega⟩
  have h1 := dv_lt h
  have h2 : 10 ^ d.length ≤ 16 ^ d.length := Nat.pow_le_pow_left (by omega) _
  rw [show (16 : Nat) = 2 ^ 4 by rfl, ← Nat.pow_mul] at h2
  obtain ⟨E, hE⟩ : ∃ E : Nat, E = 32 * 512 := ⟨_, rfl⟩
  have h3 : 2 ^ (4 * d.length) ≤ 2 ^ E := Nat.pow_le_pow_right (by omega) (by omega)
  rw [pw_two, ← hE]; omega
theorem groupValue_num (t : ByteArray) (v : Nat) (w : World) (hs : t.size ≤ 9) (hd : Digs t.data.toList) (hv : dv 0 t.data.toList = v) : Calls Tryd.prog 56 #[.string t] w fun e w' => e = .returned (.int .u64 (v : Int)) ∧ w = w' := by
  subst hv; exact groupValue_any t w hs hd
/-- one group more -/
theorem dv_next {d t : List UInt8} {g : Nat} (hg : g = 9 ∨ d = []) (hl : (t.take g).length = g) : dv 0 d * 1000000000 + dv 0 (t.take g) = dv 0 (d ++ t.take g) := by
  rw [dv_append, dv_shift (dv 0 d), hl]
  rcases hg with rfl | rfl
  · rfl
  · rw [dv_nil]; omega

set_option maxHeartbeats 2000000 in
set_option maxRecDepth 100000 in
theorem Parse_any (s : ByteArray) (w : World) (hs : s.size ≤ 9223372036854775807) :
    Calls Tryd.prog 32 #[.string s] w (PowPost (txtWhy s.data.toList) (txtRes s.data.toList) w) := by
  by_cases hgood : Good s.data.toList
  · rcases Nat.lt_or_ge 4096 s.size with hl | hl
    · obtain ⟨e1, e2⟩ := txt_long hgood (by rw [size_list]; exact hl)
      rw [e1, e2]
      have HG := Lib.hid hgood
      clear hgood e1 e2
      go_enter Tryd.func32, Tryd.ntmps32
      go_wp2_with fail
      refine (decimal_any s w hs).mono ?_; rintro e w' ⟨⟨_, rfl⟩ | ⟨hb, _⟩, rfl⟩
      · go_wp2_with fail
        go_ret2
        exact PowPost.err
      · exact absurd HG.out hb
    · obtain ⟨e1, e2⟩ := txt_fine hgood (by rw [size_list]; exact hl)
      rw [e1, e2]
      have HG := Lib.hid hgood
      clear hgood e1 e2
      go_enter Tryd.func32, Tryd.ntmps32
      go_wp2_with fail
      refine (decimal_any s w hs).mono ?_; rintro e w' ⟨⟨_, rfl⟩ | ⟨hb, _⟩, rfl⟩
      · go_wp2_with fail
        go_loopg [0, 4] s.size (fun g s0 s4 wr => ∃ (t : ByteArray) (d : List UInt8) (ao : Option Addr) (c : Nat), s0 = .string t ∧ s4 = .slice ao (dig (dv 0 d)).length c ∧ Fr w.heap.size wr ao c (dig (dv 0 d)) ∧ d ++ t.data.toList = s.data.toList ∧ t.size ≤ 4096 ∧ (t.size % 9 = 0 ∨ d = []) ∧ g = t.size ∧ Below w.heap.size w wr)
        case atStart => exact ⟨s, [], none, 0, rfl, rfl, Fr.nil _ _, rfl, hl, .inr rfl, rfl, Below.refl _ _⟩
        case round =>
          obtain ⟨t, d, ao, c, rfl, rfl, f0, hdt, htl, hmod, hgt, hbl⟩ := hrel
          have HDT := Lib.hid hdt
          have GT := Lib.hid hgt
          clear hdt hgt
          rcases Nat.eq_zero_or_pos t.size with h0 | h0
          · have hdl : Hid (d = s.data.toList) := by
              show _ = _; have := HDT.out; rwa [List.eq_nil_of_length_eq_zero (show t.data.toList.length = 0 by rw [size_list]; exact h0), List.append_nil] at this
            clear hmod
            go_wp2_with fail
            go_ret2
            (try rw [hdl.out] at f0)
            (try rw [hdl.out])
            exact ⟨ao, c, rfl, f0, hbl⟩
          · obtain ⟨g, hg⟩ : ∃ g, g = (t.size - 1) % 9 + 1 := ⟨_, rfl⟩
            have hgi : ((t.size : Int) - 1) % 9 + 1 = (g : Int) := by omega
            have hg9 : g ≤ 9 := by omega
            have hgt2 : g ≤ t.size := by omega
            have hg91 : g = 9 ∨ d = [] := by
              rcases hmod with h | h
              · left; omega
              · exact .inr h
            have hmod2 : Hid ((t.size - g) % 9 = 0) := by show _ = _; omega
            have hgi2 : ((t.size - 1 : Nat) : Int) % 9 + 1 = (g : Int) := by omega
            have hsub : (t.extract 0 g).size ≤ 9 := by simp; omega
            have hall : Digs t.data.toList := by
              have := HG.out.1; rw [← HDT.out] at this; exact fun x hx => this x (by simp [hx])
            have hd0 : Digs d := by
              have := HG.out.1; rw [← HDT.out] at this; exact fun x hx => this x (by simp [hx])
            have hdig : Digs (t.extract 0 g).data.toList := by rw [list_take]; exact hall.take g
            obtain ⟨v, hv⟩ : ∃ v, dv 0 (t.extract 0 g).data.toList = v := ⟨_, rfl⟩
            have hgl : (t.data.toList.take g).length = g := by rw [List.length_take, size_list]; omega
            have hvb : v < 1000000000 := by
              have h1 := dv_lt hdig
              rw [hv, list_take, hgl] at h1
              have h2 : 10 ^ g ≤ 10 ^ 9 := Nat.pow_le_pow_right (by omega) hg9
              have e : (10 : Nat) ^ 9 = 1000000000 := by decide
              omega
            have hdlen : d.length + t.data.toList.length ≤ 4096 := by
              have := congrArg List.length HDT.out; rw [List.length_append, size_list s] at this; omega
            obtain ⟨D, hD⟩ : ∃ D, D = dv 0 d := ⟨_, rfl⟩
            have s_D : Sm D 512 := by rw [hD]; exact sm_dv hd0 (by omega)
            have hnext : Hid (D * 1000000000 + v = dv 0 (d ++ t.data.toList.take g)) := by
              show _ = _; rw [hD, ← hv, list_take]; exact dv_next hg91 hgl
            rw [← hD] at f0 ⊢
            have n0 := Num.of_fr f0 s_D
            have s_9 : Sm 1000000000 1 := ⟨by rw [pw_succ, pw_zero]; omega, by omega⟩
            have s_v : Sm v 1 := ⟨by rw [pw_succ, pw_zero]; omega, by omega⟩
            have HSUB := Lib.hid hsub
            have HDIG := Lib.hid hdig
            have HV := Lib.hid hv
            have HALL := Lib.hid hdlen
            have hgi3 : (g : Int) ≤ (t.size : Int) := by omega
            clear hg hmod hall hd0 hD hgl hdlen hsub hdig hv hg91
            go_wp2_with fail
            go_region_with (first
              | (go_at_call_of 43 (Value.int IntKind.u64 1000000000); refine (FromUint_num 1000000000 _ rfl (by omega) _).mono ?_; rintro e W1 ⟨a1, c1, rfl, f1, b1⟩)
              | (go_at_call 39; refine (Mul_num (n0.below ((Below.refl _ _).drew.trans b1)) (Num.of_fr f1 s_9)).mono ?_; rintro e W2 ⟨a2, c2, rfl, f2, b2⟩)
              | (go_at_call 56; refine (groupValue_num _ v _ HSUB.out HDIG.out HV.out).mono ?_; rintro e W3 ⟨rfl, rfl⟩)
              | (go_at_call_of 43 (Value.int IntKind.u64 (v : Int)); refine (FromUint_num v _ rfl (by omega) _).mono ?_; rintro e W4 ⟨a4, c4, rfl, f4, b4⟩)
              | (go_at_call 38; refine (Add_num ((Num.of_fr f2 (s_D.mul s_9 (by omega))).below b4) (Num.of_fr f4 s_v)).mono ?_; rintro e W5 ⟨a5, c5, rfl, f5, b5⟩))
            have B5 := (Below.refl wr.heap.size wr).drew.trans (b1.trans ((b2.mono b1.size).trans ((b4.mono (Nat.le_trans b1.size b2.size)).trans (b5.mono (Nat.le_trans (Nat.le_trans b1.size b2.size) b4.size)))))
            rw [hnext.out] at f5
            go_wp2_with fail
            go_roundg (t.size - g)
            case measure => rw [GT.out]; omega
            case rel => exact ⟨t.extract g t.size, d ++ t.data.toList.take g, a5, c5, by first | rfl | simp, by rw [hnext.out], f5.mono (Nat.le_trans hbl.size (Nat.le_trans (Nat.le_trans b1.size b2.size) b4.size)), by rw [list_drop, List.append_assoc, List.take_append_drop]; exact HDT.out, by simp; omega, .inl (by have := hmod2.out; simpa using this), by simp, hbl.trans (B5.mono hbl.size)⟩
      · exact absurd HG.out hb
  · obtain ⟨e1, e2⟩ := txt_bad hgood
    rw [e1, e2]
    have HG := Lib.hid hgood
    clear hgood e1 e2
    go_enter Tryd.func32, Tryd.ntmps32
    go_wp2_with fail
    refine (decimal_any s w hs).mono ?_; rintro e w' ⟨⟨hb, _⟩ | ⟨_, rfl⟩, rfl⟩
    · exact absurd hb HG.out
    · go_wp2_with fail
      go_ret2
      exact PowPost.err
end Go.Proofs.YtaggodjplgmmhaaDoor
