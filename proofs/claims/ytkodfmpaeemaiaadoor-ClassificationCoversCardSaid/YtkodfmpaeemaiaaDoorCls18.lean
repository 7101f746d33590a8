import Derived.Test.YtkodfmpaeemaiaaDoorCls15
/- Package classification: selected, and the places of a list that a predicate chooses. -/
namespace Go.Proofs.YtkodfmpaeemaiaaDoor.C6
open Go.RowKit Go.Sort

/-- a code of a valid list, or the empty text -/
noncomputable def kn (l : List ByteArray) (u : ByteArray) : Bool := (val l == 0) && (u.toList.isEmpty || Lib.containsS l u)
/-- the strings of the first places that a predicate chooses -/
def selT (l : List ByteArray) (f : Nat → Bool) (i : Nat) : List ByteArray := ((List.range i).filter f).map fun j => l.getD j emp
noncomputable def selK (l : List ByteArray) (u : ByteArray) (f : Nat → Bool) : List ByteArray := if kn l u = true then selT l f l.length else []
theorem selT_zero (l : List ByteArray) (f : Nat → Bool) : selT l f 0 = [] := rfl
theorem selT_yes {l : List ByteArray} {f : Nat → Bool} {i : Nat} (h : f i = true) : selT l f (i + 1) = selT l f i ++ [l.getD i emp] := by simp [selT, List.range_succ, h]
theorem selT_no {l : List ByteArray} {f : Nat → Bool} {i : Nat} (h : f i = false) : selT l f (i + 1) = selT l f i := by simp [selT, List.range_succ, h]
theorem selT_le (l : List ByteArray) (f : Nat → Bool) (i : Nat) : (selT l f i).length ≤ i := by
  unfold selT
  rw [List.length_map]
  exact Nat.le_trans (List.length_filter_le _ _) (by simp)
def SelPost (w : World) (res : List ByteArray) (e : Ending) (w' : World) : Prop := ∃ v, e = .returned v ∧ w'.ownsRow w.heap.size 9 1 v res.length (strs res) ∧ Below w.heap.size w w'

set_option maxHeartbeats 8000000 in
set_option maxRecDepth 100000 in
theorem selectedC_v (nm : ByteArray) (ao : Option Addr) (cap : Nat) (l : List ByteArray) (u : ByteArray) (gc gu : Nat) (f : Nat → Bool) (w : World) (h : RdS w ao cap l) (hl : l.length ≤ 1000) (hev : ErrV w)
    (hf : ∀ i, i < l.length → ∀ w', Below w.heap.size w w' → Calls Tryd.prog 32 #[.int .i64 (i : Int), .pointer (some ⟨gc, 0, none⟩), .pointer (some ⟨gu, 0, none⟩)] w' fun e w2 => e = .returned (.bool (f i)) ∧ Below w'.heap.size w' w2) :
    Calls Tryd.prog 31 #[.agg #[.string nm, .slice ao l.length cap], .string u, .func (.func 32) #[] #[.pointer (some ⟨gc, 0, none⟩), .pointer (some ⟨gu, 0, none⟩)]] w (SelPost w (selK l u f)) := by
  obtain ⟨i0, hi, hz0, hz1, hz2⟩ := info_parts infoStr
  obtain ⟨n, hn⟩ : ∃ n, n = l.length := ⟨_, rfl⟩
  have b1 := below_new w (.cells #[.string nm, .slice ao l.length cap] 24)
  have k1 := Cls.new w nm ao l.length cap
  obtain ⟨W1, hW1⟩ : ∃ W1, W1 = w.alloc (.cells #[.string nm, .slice ao l.length cap] 24) := ⟨_, rfl⟩
  rw [← hW1] at b1 k1
  obtain ⟨g, hg⟩ : ∃ g, g = w.heap.size := ⟨_, rfl⟩
  rw [← hg] at k1
  have hV := fun w h e => Validate_v nm ao cap l w h e
  have hC := fun w h => contains_v ao cap l u w h
  rw [← hn] at hl hW1 k1 hV hC ⊢
  obtain ⟨vv, hvv⟩ : ∃ v, v = val l := ⟨_, rfl⟩
  obtain ⟨cc, hcc⟩ : ∃ c, c = Lib.containsS l u := ⟨_, rfl⟩
  rw [← hvv] at hV
  rw [← hcc] at hC
  have HV := Lib.hid hV
  have HC := Lib.hid hC
  have HB1 := Lib.hid b1
  have HK1 := Lib.hid k1
  have HR1 := Lib.hid (h.below b1)
  have HR0 := Lib.hid h
  have HN := Lib.hid hn
  have HE := Lib.hid hev
  have HF : Hid (∀ i, i < n → ∀ w', Below w.heap.size w w' → Calls Tryd.prog 32 #[.int .i64 (i : Int), .pointer (some ⟨gc, 0, none⟩), .pointer (some ⟨gu, 0, none⟩)] w' fun e w2 => e = .returned (.bool (f i)) ∧ Below w'.heap.size w' w2) := by rw [hn]; exact hf
  have hsz1 : W1.heap.size = g + 1 := by rw [hW1, hg]; simp
  have HS1 := Lib.hid hsz1
  have HKN : Hid (kn l u = ((vv == 0) && (u.toList.isEmpty || cc))) := by unfold Hid kn; rw [← hvv, ← hcc]
  have hcp : n ≤ cap := by have := h.1; rw [strs_length] at this; omega
  have hcp2 := h.2.1
  have q0 := k1.c0
  have q1 := k1.c1
  have HG := Lib.hid hg
  clear b1 k1 h hev hf hn hV hC hvv hcc hsz1
  -- what is refused
  have hnil : kn l u = false → ∀ w', Below w.heap.size w w' → SelPost w (selK l u f) (.returned (.slice none 0 0)) w' := fun hk w' hb => by
    unfold selK
    rw [hk]
    exact ⟨_, rfl, World.ownsRow_nil _ _ _ _, hb⟩
  have HNil := Lib.hid hnil
  clear hnil
  go_enter Tryd.func31, Tryd.ntmps31
  go_wp2_with fail
  rw [← hW1, ← hg]
  clear hW1 hg
  refine (HV.out _ HR1.out (HE.out.below HB1.out)).mono ?_; rintro e w2 ⟨rfl, b2⟩
  have HB2 := Lib.hid (HB1.out.trans (b2.mono HB1.out.size))
  have HW2 := Lib.hid b2
  have HK2 := Lib.hid (HK1.out.below b2)
  have HR2 := Lib.hid (HR1.out.below b2)
  have q2 := (HK1.out.below b2).c1
  clear b2 q0 q1
  by_cases hv0 : vv = 0
  · have e1 : (vv == 0) = true := beq_iff_eq.2 hv0
    have e2 : (vv != 0) = false := by rw [bne, e1]; rfl
    by_cases hok : u.toList.isEmpty = true ∨ cc = true
    · have HKT : Hid (kn l u = true) := by unfold Hid; rw [HKN.out, e1]; rcases hok with h | h <;> simp [h]
      have hways : u.toList.isEmpty = true ∨ (u.toList.isEmpty = false ∧ cc = true) := by
        cases hu : u.toList.isEmpty
        · exact .inr ⟨rfl, hok.resolve_left (by rw [hu]; simp)⟩
        · exact .inl rfl
      clear hok hv0
      rcases hways with hu | ⟨hu, hcc⟩
      · go_wp2_with fail
        clear q2
        go_loopw [7, 27] (fun s7 s27 wr => ∃ (i m : Nat) (v7 : Value), i ≤ n ∧ m ≤ i ∧ s27 = .int .i64 (i : Int) ∧ v7 = s7 ∧ Hid (m = (selT l f i).length) ∧ Hid (wr.ownsRow w.heap.size 9 1 v7 m (strs (selT l f i))) ∧ Hid (Below w.heap.size w wr)) (fun _ s27 _ => n - (intOf s27).toNat)
        case atStart => exact ⟨0, 0, _, by omega, by omega, rfl, rfl, rfl, World.ownsRow_nil _ _ _ _, HB2.out⟩
        case round =>
          obtain ⟨i, m, v7, hin, hmi, rfl, rfl, hm, hown, hbl⟩ := hrel
          by_cases hlt : i < n
          · have hlt2 : (i : Int) < (n : Int) := by omega
            have hil : i < l.length := by have := HN.out; omega
            obtain ⟨b, o, rfl, hc⟩ := (HR0.out.below hbl.out).atS (i := i) hil
            obtain ⟨x, hx⟩ : ∃ x, x = l.getD i ByteArray.empty := ⟨_, rfl⟩
            rw [← hx] at hc
            have HFi := HF.out i hlt wr hbl.out
            obtain ⟨t, ht⟩ : ∃ t, t = f i := ⟨_, rfl⟩
            rw [← ht] at HFi
            have HG1 := Lib.hid HFi
            have HX := Lib.hid hx
            have HT := Lib.hid ht
            clear HFi hx ht
            go_wp2_with fail
            refine HG1.out.mono ?_; rintro e w4 ⟨rfl, b4⟩
            have HB3 := Lib.hid (keep hbl.out b4)
            have HO := Lib.hid (own_below hown.out b4)
            have hsz2 : w.heap.size ≤ w4.heap.size := HB3.out.size
            have hrows : ∀ k, v7.ownBlock = some k → w.heap.size ≤ k := fun k e => (hown.out.lt k e).1
            clear b4
            cases t
            · have HM : Hid (m = (selT l f (i + 1)).length) := by unfold Hid; rw [selT_no HT.out.symm]; exact hm.out
              have HO3 : Hid (w4.ownsRow w.heap.size 9 1 v7 m (strs (selT l f (i + 1)))) := by unfold Hid; rw [selT_no HT.out.symm]; exact HO.out
              go_wp2_with fail
              go_roundw
              case rel => exact ⟨i + 1, m, _, by omega, by omega, by go_num, rfl, HM, HO3, HB3⟩
              case measure => simp [intOf]; omega
            · have HM : Hid (m + 1 = (selT l f (i + 1)).length) := by unfold Hid; rw [selT_yes HT.out.symm, List.length_append, ← hm.out]; rfl
              have HTK : Hid (strs (selT l f (i + 1)) = strs (selT l f i) ++ [.string x]) := by unfold Hid; rw [selT_yes HT.out.symm, show l.getD i emp = x from HX.out.symm]; simp [strs]
              go_wp2_with (at_builtin; refine wpList_append_own _ rfl _ _ 22 rfl w.heap.size 9 i0 (.string ByteArray.empty) 1 16 Tryd.underlying22 hi hz0 hz1 hz2 rfl (by omega) _ _ _ rfl (HO.out.alloc _) ⟨w4.heap.size, 0, none⟩ 1 1 [.string x] rfl rfl (one_cell _ _ _) (by intro u hu; simp at hu; rcases hu with rfl; rfl) (by unfold maxLen; omega) (by omega) (by simp; omega) ?_; intro v5 w5 hown5 hgr5 _)
              have HB4 : Hid (Below w.heap.size w w5) := app_below HB3.out hsz2 hgr5 hrows
              have HO3 : Hid (w5.ownsRow w.heap.size 9 1 v5 (m + 1) (strs (selT l f (i + 1)))) := by unfold Hid; rw [HTK.out]; exact hown5
              clear hown5 hgr5
              go_wp2_with fail
              go_roundw
              case rel => exact ⟨i + 1, m + 1, _, by omega, by omega, by go_num, rfl, HM, HO3, HB4⟩
              case measure => simp [intOf]; omega
          · obtain rfl : i = n := by omega
            have hlt2 : ¬ (i : Int) < (i : Int) := by omega
            have HPost : Hid (SelPost w (selK l u f) (.returned v7) wr) := by
              unfold Hid selK
              rw [if_pos HKT.out, ← HN.out]
              exact ⟨_, rfl, by rw [← hm.out]; exact hown.out, hbl.out⟩
            go_wp2_with fail
            go_ret
            exact HPost.out
      · subst hcc
        go_wp2_with fail
        refine (HC.out _ HR2.out).mono ?_; rintro e w3 ⟨rfl, rfl⟩
        go_wp2_with fail
        clear q2
        go_loopw [7, 27] (fun s7 s27 wr => ∃ (i m : Nat) (v7 : Value), i ≤ n ∧ m ≤ i ∧ s27 = .int .i64 (i : Int) ∧ v7 = s7 ∧ Hid (m = (selT l f i).length) ∧ Hid (wr.ownsRow w.heap.size 9 1 v7 m (strs (selT l f i))) ∧ Hid (Below w.heap.size w wr)) (fun _ s27 _ => n - (intOf s27).toNat)
        case atStart => exact ⟨0, 0, _, by omega, by omega, rfl, rfl, rfl, World.ownsRow_nil _ _ _ _, HB2.out⟩
        case round =>
          obtain ⟨i, m, v7, hin, hmi, rfl, rfl, hm, hown, hbl⟩ := hrel
          by_cases hlt : i < n
          · have hlt2 : (i : Int) < (n : Int) := by omega
            have hil : i < l.length := by have := HN.out; omega
            obtain ⟨b, o, rfl, hc⟩ := (HR0.out.below hbl.out).atS (i := i) hil
            obtain ⟨x, hx⟩ : ∃ x, x = l.getD i ByteArray.empty := ⟨_, rfl⟩
            rw [← hx] at hc
            have HFi := HF.out i hlt wr hbl.out
            obtain ⟨t, ht⟩ : ∃ t, t = f i := ⟨_, rfl⟩
            rw [← ht] at HFi
            have HG1 := Lib.hid HFi
            have HX := Lib.hid hx
            have HT := Lib.hid ht
            clear HFi hx ht
            go_wp2_with fail
            refine HG1.out.mono ?_; rintro e w4 ⟨rfl, b4⟩
            have HB3 := Lib.hid (keep hbl.out b4)
            have HO := Lib.hid (own_below hown.out b4)
            have hsz2 : w.heap.size ≤ w4.heap.size := HB3.out.size
            have hrows : ∀ k, v7.ownBlock = some k → w.heap.size ≤ k := fun k e => (hown.out.lt k e).1
            clear b4
            cases t
            · have HM : Hid (m = (selT l f (i + 1)).length) := by unfold Hid; rw [selT_no HT.out.symm]; exact hm.out
              have HO3 : Hid (w4.ownsRow w.heap.size 9 1 v7 m (strs (selT l f (i + 1)))) := by unfold Hid; rw [selT_no HT.out.symm]; exact HO.out
              go_wp2_with fail
              go_roundw
              case rel => exact ⟨i + 1, m, _, by omega, by omega, by go_num, rfl, HM, HO3, HB3⟩
              case measure => simp [intOf]; omega
            · have HM : Hid (m + 1 = (selT l f (i + 1)).length) := by unfold Hid; rw [selT_yes HT.out.symm, List.length_append, ← hm.out]; rfl
              have HTK : Hid (strs (selT l f (i + 1)) = strs (selT l f i) ++ [.string x]) := by unfold Hid; rw [selT_yes HT.out.symm, show l.getD i emp = x from HX.out.symm]; simp [strs]
              go_wp2_with (at_builtin; refine wpList_append_own _ rfl _ _ 22 rfl w.heap.size 9 i0 (.string ByteArray.empty) 1 16 Tryd.underlying22 hi hz0 hz1 hz2 rfl (by omega) _ _ _ rfl (HO.out.alloc _) ⟨w4.heap.size, 0, none⟩ 1 1 [.string x] rfl rfl (one_cell _ _ _) (by intro u hu; simp at hu; rcases hu with rfl; rfl) (by unfold maxLen; omega) (by omega) (by simp; omega) ?_; intro v5 w5 hown5 hgr5 _)
              have HB4 : Hid (Below w.heap.size w w5) := app_below HB3.out hsz2 hgr5 hrows
              have HO3 : Hid (w5.ownsRow w.heap.size 9 1 v5 (m + 1) (strs (selT l f (i + 1)))) := by unfold Hid; rw [HTK.out]; exact hown5
              clear hown5 hgr5
              go_wp2_with fail
              go_roundw
              case rel => exact ⟨i + 1, m + 1, _, by omega, by omega, by go_num, rfl, HM, HO3, HB4⟩
              case measure => simp [intOf]; omega
          · obtain rfl : i = n := by omega
            have hlt2 : ¬ (i : Int) < (i : Int) := by omega
            have HPost : Hid (SelPost w (selK l u f) (.returned v7) wr) := by
              unfold Hid selK
              rw [if_pos HKT.out, ← HN.out]
              exact ⟨_, rfl, by rw [← hm.out]; exact hown.out, hbl.out⟩
            go_wp2_with fail
            go_ret
            exact HPost.out
    · have hu : u.toList.isEmpty = false := by cases h : u.toList.isEmpty; rfl; exact absurd (.inl h) hok
      have hc : cc = false := by cases h : cc; rfl; exact absurd (.inr h) hok
      subst hc
      have HKF : Hid (kn l u = false) := by unfold Hid; rw [HKN.out, hu]; simp
      clear hok hv0
      go_wp2_with fail
      refine (HC.out _ HR2.out).mono ?_; rintro e w3 ⟨rfl, rfl⟩
      go_wp2_with fail
      go_ret
      exact HNil.out HKF.out _ HB2.out
  · have e1 : (vv == 0) = false := beq_eq_false_iff_ne.2 hv0
    have e2 : (vv != 0) = true := by rw [bne, e1]; rfl
    have HKF : Hid (kn l u = false) := by unfold Hid; rw [HKN.out, e1]; rfl
    clear hv0
    go_wp2_with fail
    go_ret
    exact HNil.out HKF.out _ HB2.out

set_option maxHeartbeats 8000000 in
set_option maxRecDepth 100000 in
theorem selectedL_v (nm : ByteArray) (ao : Option Addr) (cap : Nat) (l : List ByteArray) (u : ByteArray) (gc gu : Nat) (f : Nat → Bool) (w : World) (h : RdS w ao cap l) (hl : l.length ≤ 1000) (hev : ErrV w)
    (hf : ∀ i, i < l.length → ∀ w', Below w.heap.size w w' → Calls Tryd.prog 34 #[.int .i64 (i : Int), .pointer (some ⟨gc, 0, none⟩), .pointer (some ⟨gu, 0, none⟩)] w' fun e w2 => e = .returned (.bool (f i)) ∧ Below w'.heap.size w' w2) :
    Calls Tryd.prog 31 #[.agg #[.string nm, .slice ao l.length cap], .string u, .func (.func 34) #[] #[.pointer (some ⟨gc, 0, none⟩), .pointer (some ⟨gu, 0, none⟩)]] w (SelPost w (selK l u f)) := by
  obtain ⟨i0, hi, hz0, hz1, hz2⟩ := info_parts infoStr
  obtain ⟨n, hn⟩ : ∃ n, n = l.length := ⟨_, rfl⟩
  have b1 := below_new w (.cells #[.string nm, .slice ao l.length cap] 24)
  have k1 := Cls.new w nm ao l.length cap
  obtain ⟨W1, hW1⟩ : ∃ W1, W1 = w.alloc (.cells #[.string nm, .slice ao l.length cap] 24) := ⟨_, rfl⟩
  rw [← hW1] at b1 k1
  obtain ⟨g, hg⟩ : ∃ g, g = w.heap.size := ⟨_, rfl⟩
  rw [← hg] at k1
  have hV := fun w h e => Validate_v nm ao cap l w h e
  have hC := fun w h => contains_v ao cap l u w h
  rw [← hn] at hl hW1 k1 hV hC ⊢
  obtain ⟨vv, hvv⟩ : ∃ v, v = val l := ⟨_, rfl⟩
  obtain ⟨cc, hcc⟩ : ∃ c, c = Lib.containsS l u := ⟨_, rfl⟩
  rw [← hvv] at hV
  rw [← hcc] at hC
  have HV := Lib.hid hV
  have HC := Lib.hid hC
  have HB1 := Lib.hid b1
  have HK1 := Lib.hid k1
  have HR1 := Lib.hid (h.below b1)
  have HR0 := Lib.hid h
  have HN := Lib.hid hn
  have HE := Lib.hid hev
  have HF : Hid (∀ i, i < n → ∀ w', Below w.heap.size w w' → Calls Tryd.prog 34 #[.int .i64 (i : Int), .pointer (some ⟨gc, 0, none⟩), .pointer (some ⟨gu, 0, none⟩)] w' fun e w2 => e = .returned (.bool (f i)) ∧ Below w'.heap.size w' w2) := by rw [hn]; exact hf
  have hsz1 : W1.heap.size = g + 1 := by rw [hW1, hg]; simp
  have HS1 := Lib.hid hsz1
  have HKN : Hid (kn l u = ((vv == 0) && (u.toList.isEmpty || cc))) := by unfold Hid kn; rw [← hvv, ← hcc]
  have hcp : n ≤ cap := by have := h.1; rw [strs_length] at this; omega
  have hcp2 := h.2.1
  have q0 := k1.c0
  have q1 := k1.c1
  have HG := Lib.hid hg
  clear b1 k1 h hev hf hn hV hC hvv hcc hsz1
  -- what is refused
  have hnil : kn l u = false → ∀ w', Below w.heap.size w w' → SelPost w (selK l u f) (.returned (.slice none 0 0)) w' := fun hk w' hb => by
    unfold selK
    rw [hk]
    exact ⟨_, rfl, World.ownsRow_nil _ _ _ _, hb⟩
  have HNil := Lib.hid hnil
  clear hnil
  go_enter Tryd.func31, Tryd.ntmps31
  go_wp2_with fail
  rw [← hW1, ← hg]
  clear hW1 hg
  refine (HV.out _ HR1.out (HE.out.below HB1.out)).mono ?_; rintro e w2 ⟨rfl, b2⟩
  have HB2 := Lib.hid (HB1.out.trans (b2.mono HB1.out.size))
  have HW2 := Lib.hid b2
  have HK2 := Lib.hid (HK1.out.below b2)
  have HR2 := Lib.hid (HR1.out.below b2)
  have q2 := (HK1.out.below b2).c1
  clear b2 q0 q1
  by_cases hv0 : vv = 0
  · have e1 : (vv == 0) = true := beq_iff_eq.2 hv0
    have e2 : (vv != 0) = false := by rw [bne, e1]; rfl
    by_cases hok : u.toList.isEmpty = true ∨ cc = true
    · have HKT : Hid (kn l u = true) := by unfold Hid; rw [HKN.out, e1]; rcases hok with h | h <;> simp [h]
      have hways : u.toList.isEmpty = true ∨ (u.toList.isEmpty = false ∧ cc = true) := by
        cases hu : u.toList.isEmpty
        · exact .inr ⟨rfl, hok.resolve_left (by rw [hu]; simp)⟩
        · exact .inl rfl
      clear hok hv0
      rcases hways with hu | ⟨hu, hcc⟩
      · go_wp2_with fail
        clear q2
        go_loopw [7, 27] (fun s7 s27 wr => ∃ (i m : Nat) (v7 : Value), i ≤ n ∧ m ≤ i ∧ s27 = .int .i64 (i : Int) ∧ v7 = s7 ∧ Hid (m = (selT l f i).length) ∧ Hid (wr.ownsRow w.heap.size 9 1 v7 m (strs (selT l f i))) ∧ Hid (Below w.heap.size w wr)) (fun _ s27 _ => n - (intOf s27).toNat)
        case atStart => exact ⟨0, 0, _, by omega, by omega, rfl, rfl, rfl, World.ownsRow_nil _ _ _ _, HB2.out⟩
        case round =>
          obtain ⟨i, m, v7, hin, hmi, rfl, rfl, hm, hown, hbl⟩ := hrel
          by_cases hlt : i < n
          · have hlt2 : (i : Int) < (n : Int) := by omega
            have hil : i < l.length := by have := HN.out; omega
            obtain ⟨b, o, rfl, hc⟩ := (HR0.out.below hbl.out).atS (i := i) hil
            obtain ⟨x, hx⟩ : ∃ x, x = l.getD i ByteArray.empty := ⟨_, rfl⟩
            rw [← hx] at hc
            have HFi := HF.out i hlt wr hbl.out
            obtain ⟨t, ht⟩ : ∃ t, t = f i := ⟨_, rfl⟩
            rw [← ht] at HFi
            have HG1 := Lib.hid HFi
            have HX := Lib.hid hx
            have HT := Lib.hid ht
            clear HFi hx ht
            go_wp2_with fail
            refine HG1.out.mono ?_; rintro e w4 ⟨rfl, b4⟩
            have HB3 := Lib.hid (keep hbl.out b4)
            have HO := Lib.hid (own_below hown.out b4)
            have hsz2 : w.heap.size ≤ w4.heap.size := HB3.out.size
            have hrows : ∀ k, v7.ownBlock = some k → w.heap.size ≤ k := fun k e => (hown.out.lt k e).1
            clear b4
            cases t
            · have HM : Hid (m = (selT l f (i + 1)).length) := by unfold Hid; rw [selT_no HT.out.symm]; exact hm.out
              have HO3 : Hid (w4.ownsRow w.heap.size 9 1 v7 m (strs (selT l f (i + 1)))) := by unfold Hid; rw [selT_no HT.out.symm]; exact HO.out
              go_wp2_with fail
              go_roundw
              case rel => exact ⟨i + 1, m, _, by omega, by omega, by go_num, rfl, HM, HO3, HB3⟩
              case measure => simp [intOf]; omega
            · have HM : Hid (m + 1 = (selT l f (i + 1)).length) := by unfold Hid; rw [selT_yes HT.out.symm, List.length_append, ← hm.out]; rfl
              have HTK : Hid (strs (selT l f (i + 1)) = strs (selT l f i) ++ [.string x]) := by unfold Hid; rw [selT_yes HT.out.symm, show l.getD i emp = x from HX.out.symm]; simp [strs]
              go_wp2_with (at_builtin; refine wpList_append_own _ rfl _ _ 22 rfl w.heap.size 9 i0 (.string ByteArray.empty) 1 16 Tryd.underlying22 hi hz0 hz1 hz2 rfl (by omega) _ _ _ rfl (HO.out.alloc _) ⟨w4.heap.size, 0, none⟩ 1 1 [.string x] rfl rfl (one_cell _ _ _) (by intro u hu; simp at hu; rcases hu with rfl; rfl) (by unfold maxLen; omega) (by omega) (by simp; omega) ?_; intro v5 w5 hown5 hgr5 _)
              have HB4 : Hid (Below w.heap.size w w5) := app_below HB3.out hsz2 hgr5 hrows
              have HO3 : Hid (w5.ownsRow w.heap.size 9 1 v5 (m + 1) (strs (selT l f (i + 1)))) := by unfold Hid; rw [HTK.out]; exact hown5
              clear hown5 hgr5
              go_wp2_with fail
              go_roundw
              case rel => exact ⟨i + 1, m + 1, _, by omega, by omega, by go_num, rfl, HM, HO3, HB4⟩
              case measure => simp [intOf]; omega
          · obtain rfl : i = n := by omega
            have hlt2 : ¬ (i : Int) < (i : Int) := by omega
            have HPost : Hid (SelPost w (selK l u f) (.returned v7) wr) := by
              unfold Hid selK
              rw [if_pos HKT.out, ← HN.out]
              exact ⟨_, rfl, by rw [← hm.out]; exact hown.out, hbl.out⟩
            go_wp2_with fail
            go_ret
            exact HPost.out
      · subst hcc
        go_wp2_with fail
        refine (HC.out _ HR2.out).mono ?_; rintro e w3 ⟨rfl, rfl⟩
        go_wp2_with fail
        clear q2
        go_loopw [7, 27] (fun s7 s27 wr => ∃ (i m : Nat) (v7 : Value), i ≤ n ∧ m ≤ i ∧ s27 = .int .i64 (i : Int) ∧ v7 = s7 ∧ Hid (m = (selT l f i).length) ∧ Hid (wr.ownsRow w.heap.size 9 1 v7 m (strs (selT l f i))) ∧ Hid (Below w.heap.size w wr)) (fun _ s27 _ => n - (intOf s27).toNat)
        case atStart => exact ⟨0, 0, _, by omega, by omega, rfl, rfl, rfl, World.ownsRow_nil _ _ _ _, HB2.out⟩
        case round =>
          obtain ⟨i, m, v7, hin, hmi, rfl, rfl, hm, hown, hbl⟩ := hrel
          by_cases hlt : i < n
          · have hlt2 : (i : Int) < (n : Int) := by omega
            have hil : i < l.length := by have := HN.out; omega
            obtain ⟨b, o, rfl, hc⟩ := (HR0.out.below hbl.out).atS (i := i) hil
            obtain ⟨x, hx⟩ : ∃ x, x = l.getD i ByteArray.empty := ⟨_, rfl⟩
            rw [← hx] at hc
            have HFi := HF.out i hlt wr hbl.out
            obtain ⟨t, ht⟩ : ∃ t, t = f i := ⟨_, rfl⟩
            rw [← ht] at HFi
            have HG1 := Lib.hid HFi
            have HX := Lib.hid hx
            have HT := Lib.hid ht
            clear HFi hx ht
            go_wp2_with fail
            refine HG1.out.mono ?_; rintro e w4 ⟨rfl, b4⟩
            have HB3 := Lib.hid (keep hbl.out b4)
            have HO := Lib.hid (own_below hown.out b4)
            have hsz2 : w.heap.size ≤ w4.heap.size := HB3.out.size
            have hrows : ∀ k, v7.ownBlock = some k → w.heap.size ≤ k := fun k e => (hown.out.lt k e).1
            clear b4
            cases t
            · have HM : Hid (m = (selT l f (i + 1)).length) := by unfold Hid; rw [selT_no HT.out.symm]; exact hm.out
              have HO3 : Hid (w4.ownsRow w.heap.size 9 1 v7 m (strs (selT l f (i + 1)))) := by unfold Hid; rw [selT_no HT.out.symm]; exact HO.out
              go_wp2_with fail
              go_roundw
              case rel => exact ⟨i + 1, m, _, by omega, by omega, by go_num, rfl, HM, HO3, HB3⟩
              case measure => simp [intOf]; omega
            · have HM : Hid (m + 1 = (selT l f (i + 1)).length) := by unfold Hid; rw [selT_yes HT.out.symm, List.length_append, ← hm.out]; rfl
              have HTK : Hid (strs (selT l f (i + 1)) = strs (selT l f i) ++ [.string x]) := by unfold Hid; rw [selT_yes HT.out.symm, show l.getD i emp = x from HX.out.symm]; simp [strs]
              go_wp2_with (at_builtin; refine wpList_append_own _ rfl _ _ 22 rfl w.heap.size 9 i0 (.string ByteArray.empty) 1 16 Tryd.underlying22 hi hz0 hz1 hz2 rfl (by omega) _ _ _ rfl (HO.out.alloc _) ⟨w4.heap.size, 0, none⟩ 1 1 [.string x] rfl rfl (one_cell _ _ _) (by intro u hu; simp at hu; rcases hu with rfl; rfl) (by unfold maxLen; omega) (by omega) (by simp; omega) ?_; intro v5 w5 hown5 hgr5 _)
              have HB4 : Hid (Below w.heap.size w w5) := app_below HB3.out hsz2 hgr5 hrows
              have HO3 : Hid (w5.ownsRow w.heap.size 9 1 v5 (m + 1) (strs (selT l f (i + 1)))) := by unfold Hid; rw [HTK.out]; exact hown5
              clear hown5 hgr5
              go_wp2_with fail
              go_roundw
              case rel => exact ⟨i + 1, m + 1, _, by omega, by omega, by go_num, rfl, HM, HO3, HB4⟩
              case measure => simp [intOf]; omega
          · obtain rfl : i = n := by omega
            have hlt2 : ¬ (i : Int) < (i : Int) := by omega
            have HPost : Hid (SelPost w (selK l u f) (.returned v7) wr) := by
              unfold Hid selK
              rw [if_pos HKT.out, ← HN.out]
              exact ⟨_, rfl, by rw [← hm.out]; exact hown.out, hbl.out⟩
            go_wp2_with fail
            go_ret
            exact HPost.out
    · have hu : u.toList.isEmpty = false := by cases h : u.toList.isEmpty; rfl; exact absurd (.inl h) hok
      have hc : cc = false := by cases h : cc; rfl; exact absurd (.inr h) hok
      subst hc
      have HKF : Hid (kn l u = false) := by unfold Hid; rw [HKN.out, hu]; simp
      clear hok hv0
      go_wp2_with fail
      refine (HC.out _ HR2.out).mono ?_; rintro e w3 ⟨rfl, rfl⟩
      go_wp2_with fail
      go_ret
      exact HNil.out HKF.out _ HB2.out
  · have e1 : (vv == 0) = false := beq_eq_false_iff_ne.2 hv0
    have e2 : (vv != 0) = true := by rw [bne, e1]; rfl
    have HKF : Hid (kn l u = false) := by unfold Hid; rw [HKN.out, e1]; rfl
    clear hv0
    go_wp2_with fail
    go_ret
    exact HNil.out HKF.out _ HB2.out
end Go.Proofs.YtkodfmpaeemaiaaDoor.C6
