import Derived.Test.YtkodfmpaeemaiaaDoorCls9
import Derived.Test.YtkodfmpaeemaiaaDoorClsV
/- Package classification: Validate. -/
namespace Go.Proofs.YtkodfmpaeemaiaaDoor.C6
open Go.RowKit Go.Sort

theorem contains_v (ao : Option Addr) (cap : Nat) (bs : List ByteArray) (s : ByteArray) (w : World) (h : RdS w ao cap bs) :
    Calls Tryd.prog 39 #[.slice ao bs.length cap, .string s] w fun e w' => e = .returned (.bool (Lib.containsS bs s)) ∧ w' = w := by
  by_cases h0 : bs = []
  · subst h0
    exact Tryd.slices_Contains_string_empty ao cap s w
  · obtain ⟨b, o, rfl, _⟩ := h.atS (i := 0) (List.length_pos_iff.2 h0)
    have := Tryd.slices_Contains_string b o bs.length cap bs s w (Nat.le_refl _) (by have h1 := h.1; have h2 := h.2.1; rw [strs_length] at h1; omega) (fun j hj => by
      obtain ⟨b', o', e, hc⟩ := h.atS hj
      cases e
      exact hc)
    rw [List.take_length] at this
    exact this

set_option maxHeartbeats 4000000 in
theorem checkNext_v (ao : Option Addr) (cap : Nat) (bs : List ByteArray) (s : ByteArray) (w : World) (h : RdS w ao cap bs) (hev : ErrV w) (hl : bs.length ≤ 1000) :
    Calls Tryd.prog 22 #[.slice ao bs.length cap, .string s] w fun e w' => e = .returned (.int .i64 (vs bs s)) ∧ Below w.heap.size w w' := by
  have hPV := fun w h => Parent_v s w h
  obtain ⟨pa, hpa⟩ : ∃ x, x = (par s).1 := ⟨_, rfl⟩
  cases hP : P s with
  | none =>
    rw [par_none hP] at hPV
    have PV := Lib.hid hPV
    have HX : Hid ((60 : Int) = vs bs s) := (vs_code hP).symm
    obtain ⟨n, hn⟩ : ∃ n, n = bs.length := ⟨_, rfl⟩
    rw [← hn]
    clear hPV hP hpa hn h hl
    go_enter Tryd.func22, Tryd.ntmps22
    go_wp2_with fail
    refine (PV.out _ hev).mono ?_; rintro e w1 ⟨rfl, b1⟩
    go_wp2_with fail
    go_ret
    exact ⟨ret_i64 HX.out, b1⟩
  | some p =>
    have hp2 : par s = (pa, true) := by rw [hpa]; unfold par; rw [hP]
    rw [hp2] at hPV
    have PV := Lib.hid hPV
    have C1 : Hid (∀ w, RdS w ao cap bs → Calls Tryd.prog 39 #[.slice ao bs.length cap, .string pa] w fun e w' => e = .returned (.bool (Lib.containsS bs pa)) ∧ w' = w) := fun w h => contains_v ao cap bs pa w h
    obtain ⟨cn, hcn⟩ : ∃ x, x = Lib.containsS bs pa := ⟨_, rfl⟩
    have HO : Hid ((0 < bs.length ∧ 0 ≤ cmpS (bs.getD (bs.length - 1) emp) s) → vs bs s = 62) := vs_order hP
    have HPa : Hid (¬ (0 < bs.length ∧ 0 ≤ cmpS (bs.getD (bs.length - 1) emp) s) → pa.toList.isEmpty = false → cn = false → vs bs s = 63) := fun h1 h2 h3 => vs_parent hP h1 ⟨by rw [← hpa]; exact h2, by rw [← hpa, ← hcn]; exact h3⟩
    have HK : Hid (¬ (0 < bs.length ∧ 0 ≤ cmpS (bs.getD (bs.length - 1) emp) s) → ¬ (pa.toList.isEmpty = false ∧ cn = false) → vs bs s = 0) := fun h1 h2 => vs_ok hP h1 (by rw [← hpa, ← hcn]; exact h2)
    unfold Hid at C1
    rw [← hcn] at C1
    have HR := Lib.hid h
    obtain ⟨n, hn⟩ : ∃ n, n = bs.length := ⟨_, rfl⟩
    unfold Hid at HO HPa HK
    rw [← hn] at C1 HO HPa HK hl ⊢
    have HC := Lib.hid C1
    have HO2 := Lib.hid HO
    have HP2 := Lib.hid HPa
    have HK2 := Lib.hid HK
    have HN := Lib.hid hn
    clear C1 HO HPa HK hPV hP hp2 hpa hn h hcn
    -- behind the order: the parent
    have last : Hid (∀ (hno : ¬ (0 < n ∧ 0 ≤ cmpS (bs.getD (n - 1) emp) s)), (pa.toList.isEmpty = true ∧ vs bs s = 0) ∨ (pa.toList.isEmpty = false ∧ cn = false ∧ vs bs s = 63) ∨ (pa.toList.isEmpty = false ∧ cn = true ∧ vs bs s = 0)) := fun hno => by
      cases he : pa.toList.isEmpty
      · cases hc : cn
        · exact .inr (.inl ⟨rfl, rfl, HP2.out hno he hc⟩)
        · exact .inr (.inr ⟨rfl, rfl, HK2.out hno (fun h => by rw [hc] at h; cases h.2)⟩)
      · exact .inl ⟨rfl, HK2.out hno (fun h => by rw [he] at h; cases h.1)⟩
    go_enter Tryd.func22, Tryd.ntmps22
    go_wp2_with fail
    refine (PV.out _ hev).mono ?_; rintro e w1 ⟨rfl, b1⟩
    have HB1 := Lib.hid b1
    have HR1 := Lib.hid (HR.out.below b1)
    clear b1
    by_cases hn0 : 0 < n
    · obtain ⟨b, o, rfl, hc⟩ := HR1.out.atS (i := n - 1) (by have := HN.out; omega)
      obtain ⟨k, hk⟩ : ∃ k, n = k + 1 := ⟨n - 1, by omega⟩
      obtain ⟨y, hy⟩ : ∃ y, y = bs.getD (n - 1) ByteArray.empty := ⟨_, rfl⟩
      rw [← hy, show n - 1 = k by omega] at hc
      have e1 : (n : Int) - 1 = (k : Int) := by omega
      have hkn : k < n := by omega
      have hkI : (k : Int) < (n : Int) := by omega
      have CV := Lib.hid (fun w h => Compare_v y s w h)
      obtain ⟨c, hcc⟩ : ∃ c, c = cmpS y s := ⟨_, rfl⟩
      unfold Hid at CV
      rw [← hcc] at CV
      have CV2 := Lib.hid CV
      have hcy : cmpS (bs.getD (n - 1) emp) s = c := by rw [hcc, hy]; rfl
      by_cases h0 : 0 ≤ c
      · have HX : Hid ((62 : Int) = vs bs s) := (HO2.out ⟨hn0, by rw [hcy]; exact h0⟩).symm
        clear hk hy CV hcc hcy
        go_wp2_with fail
        refine (CV2.out _ (hev.below HB1.out)).mono ?_; rintro e w2 ⟨rfl, b2⟩
        have HB2 := Lib.hid (keep HB1.out b2)
        clear b2
        go_wp2_with fail
        go_ret
        exact ⟨ret_i64 HX.out, HB2.out⟩
      · have hL := last.out (fun h => h0 (by rw [← hcy]; exact h.2))
        clear hk hy CV hcc hcy
        rcases hL with ⟨t1, t2⟩ | ⟨t1, t2, t3⟩ | ⟨t1, t2, t3⟩
        · have HX : Hid ((0 : Int) = vs bs s) := t2.symm
          clear t2
          go_wp2_with fail
          refine (CV2.out _ (hev.below HB1.out)).mono ?_; rintro e w2 ⟨rfl, b2⟩
          have HB2 := Lib.hid (keep HB1.out b2)
          clear b2
          go_wp2_with fail
          go_ret
          exact ⟨ret_i64 HX.out, HB2.out⟩
        all_goals
          subst t2
          have HX := Lib.hid t3
          clear t3
          go_wp2_with fail
          refine (CV2.out _ (hev.below HB1.out)).mono ?_; rintro e w2 ⟨rfl, b2⟩
          have HB2 := Lib.hid (keep HB1.out b2)
          have HR2 := Lib.hid (HR1.out.below b2)
          clear b2
          go_wp2_with fail
          refine (HC.out _ HR2.out).mono ?_; rintro e w3 ⟨rfl, rfl⟩
          go_wp2_with fail
          go_ret
          exact ⟨ret_i64 HX.out.symm, HB2.out⟩
    · have hL := last.out (fun h => hn0 h.1)
      have hn0' : n = 0 := by omega
      rcases hL with ⟨t1, t2⟩ | ⟨t1, t2, t3⟩ | ⟨t1, t2, t3⟩
      · have HX : Hid ((0 : Int) = vs bs s) := t2.symm
        clear t2 hn0'
        go_wp2_with fail
        go_ret
        exact ⟨ret_i64 HX.out, HB1.out⟩
      all_goals
        subst t2
        have HX := Lib.hid t3
        clear t3 hn0'
        go_wp2_with fail
        refine (HC.out _ HR1.out).mono ?_; rintro e w3 ⟨rfl, rfl⟩
        go_wp2_with fail
        go_ret
        exact ⟨ret_i64 HX.out.symm, HB1.out⟩
end Go.Proofs.YtkodfmpaeemaiaaDoor.C6
