import Derived.Test.YtkedgkfdmdlhoaaDoorPvB
import Derived.Test.YtkedgkfdmdlhoaaDoorPvQ
import Derived.Test.YtkedgkfdmdlhoaaDoorCls6
/- Layer 9: product.Validate. -/
namespace Go.Proofs.YtkedgkfdmdlhoaaDoor.P9
open Go.RowKit Go.Sort C6

/-- the first error of a product -/
noncomputable def perr (p : Pd) (l : List Atr) : Int := if vid p.id.data.toList = false then 90 else if lev p.co < 1 then 91 else if nm p.br.data.toList = false then 92 else if qwhy p.d p.c p.a ≠ 0 then 93 else if vA l = false then 94 else 0
theorem ret_int {x y : Int} (h : x = y) : Ending.returned (.int .i64 x) = .returned (.int .i64 y) := by rw [h]
theorem lev_none {s : ByteArray} (h : (P s).isSome = false) : lev s < 1 := by
  have h0 : P s = none := by cases hp : P s with
    | none => rfl
    | some q => rw [hp] at h; cases h
  unfold lev PO
  by_cases e : s = emp
  · rw [if_pos e]; decide
  · rw [if_neg e, h0]; decide
theorem lev_some {s : ByteArray} (h : (P s).isSome = true) : ¬ lev s < 1 := by
  obtain ⟨q, hq⟩ := Option.isSome_iff_exists.1 h
  obtain ⟨hp, hs⟩ := P_some hq
  have he : s ≠ emp := by
    intro e
    have h2 := (cod_len hp).1
    rw [e] at hs
    have h3 := congrArg (fun x : ByteArray => x.data.toList.length) hs
    simp [txt] at h3
    omega
  unfold lev PO
  rw [if_neg he, hq]
  have := hp.1
  show ¬ ((q.length : Int) < 1)
  omega
theorem vA_bad {l : List Atr} {i : Nat} (h : okA l i = false) (hi : i < l.length) : vA l = false := by
  unfold vA
  rw [vAt_bad h l.length hi, Bool.and_false]
theorem mem_names {l : List Atr} {i j : Nat} (hj : j < i) (hi : i ≤ l.length) : (l.getD j e2).1 ∈ (l.take i).map (·.1) := by
  refine List.mem_map.2 ⟨l.getD j e2, ?_, rfl⟩
  have hjl : j < l.length := by omega
  refine List.mem_iff_getElem.2 ⟨j, by rw [List.length_take]; omega, ?_⟩
  simp [List.getD, hjl]
theorem names_mem {l : List Atr} {i : Nat} {x : ByteArray} (h : x ∈ (l.take i).map (·.1)) (hi : i ≤ l.length) : ∃ j, j < i ∧ (l.getD j e2).1 = x := by
  obtain ⟨y, hy, e⟩ := List.mem_map.1 h
  obtain ⟨j, hj, e'⟩ := List.mem_iff_getElem.1 hy
  rw [List.length_take] at hj
  refine ⟨j, by omega, ?_⟩
  have hjl : j < l.length := by omega
  have e3 : l.getD j e2 = y := by rw [← e']; simp [List.getD, hjl]
  rw [e3]
  exact e
theorem bytes_neq {a b : ByteArray} (h : a ≠ b) : (a.toList == b.toList) = false := by
  cases he : (a.toList == b.toList) with
  | false => rfl
  | true =>
    have h1 : a.toList = b.toList := by simpa using he
    rw [ByteArray.toList_eq, ByteArray.toList_eq] at h1
    exact absurd (ByteArray.ext (Array.toList_inj.1 h1)) h

set_option maxHeartbeats 16000000 in
set_option maxRecDepth 100000 in
theorem Validate_v (p : Pd) (ao : Option Addr) (ca : Nat) (l : List Atr) (w : World) (h : RdA w ao ca l) (hl : l.length ≤ 1000) (sz : Sz p l) (hev : ErrV w) :
    Calls Tryd.prog 8 #[.agg #[.string p.id, .string p.co, .string p.br, .int .i64 p.d, .int .i64 p.c, .int .i64 p.a, .slice ao l.length ca]] w fun e w' => e = .returned (.int .i64 (perr p l)) ∧ Below w.heap.size w w' := by
  obtain ⟨n, hn⟩ : ∃ n, n = l.length := ⟨_, rfl⟩
  rw [← hn]
  obtain ⟨W0, hW0⟩ : ∃ W, W = w.alloc (.cells #[.string p.id, .string p.co, .string p.br, .int .i64 p.d, .int .i64 p.c, .int .i64 p.a, .slice ao n ca] 26) := ⟨_, rfl⟩
  obtain ⟨g, hg⟩ : ∃ g, g = w.heap.size := ⟨_, rfl⟩
  have HB0 : Hid (Below w.heap.size w W0) := by rw [hW0]; exact below_new _ _
  have PB0 : Hid (PB W0 g p (.slice ao n ca)) := by rw [hW0, hg]; exact PB.new _ _ _
  have HR := Lib.hid h
  have HN := Lib.hid hn
  have HSL : Hid (∀ x ∈ l, x.1.size ≤ 1000 ∧ x.2.size ≤ 1000) := fun x hx => by have := sz.at1 x hx; omega
  obtain ⟨ha1, ha2⟩ : n ≤ ca ∧ ca ≤ 9223372036854775807 := by have := h.1; have := h.2.1; omega
  have hn1 : n ≤ 1000 := by omega
  have C0 : Hid (∀ w', Calls Tryd.prog 21 #[.string p.id] w' fun e w'' => e = .returned (.bool (vid p.id.data.toList)) ∧ Below w'.heap.size w' w'') := fun w' => ValidID_v p.id (by have := sz.id; omega) w'
  have C1 : Hid (∀ w', Below w.heap.size w w' → Calls Tryd.prog 22 #[.string p.co] w' fun e w'' => e = .returned (.int .i64 (lev p.co)) ∧ Below w'.heap.size w' w'') := fun w' hb => Level_v p.co w' (hev.below hb)
  have C2 : Hid (∀ w', Calls Tryd.prog 23 #[.string p.br] w' fun e w'' => e = .returned (.bool (nm p.br.data.toList)) ∧ Below w'.heap.size w' w'') := fun w' => name_v p.br (by have := sz.br; omega) w'
  have C3 : Hid (∀ w', Calls Tryd.prog 24 #[.agg #[.int .i64 p.d, .int .i64 p.c, .int .i64 p.a]] w' fun e w'' => e = .returned (.int .i64 (qwhy p.d p.c p.a)) ∧ Below w'.heap.size w' w'') := fun w' => Validate_q p.d p.c p.a sz.qb w'
  have C4 : Hid (∀ w', Below w.heap.size w w' → Calls Tryd.prog 25 #[.slice ao n ca] w' fun e w'' => e = .returned (.bool (vA l)) ∧ Below w'.heap.size w' w'') := fun w' hb => by rw [hn]; exact validAttributes_v ao ca l w' (h.below hb) hl HSL.out
  clear h hl sz hn hev
  obtain ⟨k0, k1, k2, k3, k4, k5, k6⟩ := PB0.out.cells
  go_enter Tryd.func8, Tryd.ntmps8
  go_upto_region 1 with fail
  rw [← hW0]
  try rw [← hg]
  clear hW0 hg
  obtain ⟨v0, hv0⟩ : ∃ v, v = vid p.id.data.toList := ⟨_, rfl⟩
  unfold Hid at C0
  rw [← hv0] at C0
  have C0 := Lib.hid C0
  cases v0 with
  | false =>
    have HX : Hid (90 = perr p l) := by unfold Hid perr; rw [← hv0]; rfl
    clear hv0
    go_wp2_with fail
    refine (C0.out W0).mono ?_; rintro e W1 ⟨rfl, b0⟩
    have HB1 : Hid (Below w.heap.size w W1) := HB0.out.trans (b0.mono HB0.out.size)
    have PB1 := Lib.hid (PB0.out.below b0)
    clear b0 k0 k1 k2 k3 k4 k5 k6
    go_wp2_with fail
    go_ret
    exact ⟨ret_int HX.out, HB1.out⟩
  | true =>
    have V0 := Lib.hid hv0
    clear hv0
    go_wp2_with fail
    refine (C0.out W0).mono ?_; rintro e W1 ⟨rfl, b0⟩
    have HB1 : Hid (Below w.heap.size w W1) := HB0.out.trans (b0.mono HB0.out.size)
    have PB1 := Lib.hid (PB0.out.below b0)
    clear b0 k0 k1 k2 k3 k4 k5 k6
    obtain ⟨k0, k1, k2, k3, k4, k5, k6⟩ := PB1.out.cells
    obtain ⟨v1, hv1⟩ : ∃ v : Int, v = lev p.co := ⟨_, rfl⟩
    unfold Hid at C1
    rw [← hv1] at C1
    have C1 := Lib.hid C1
    by_cases h1 : v1 < 1
    · have h1b : decide (v1 < 1) = true := decide_eq_true h1
      have HX : Hid (91 = perr p l) := by unfold Hid perr; rw [← V0.out, if_neg (by decide), if_pos (by rw [← hv1]; exact h1)]
      clear hv1
      go_wp2_with fail
      refine (C1.out W1 HB1.out).mono ?_; rintro e W2 ⟨rfl, b1⟩
      have HB2 : Hid (Below w.heap.size w W2) := HB1.out.trans (b1.mono HB1.out.size)
      have PB2 := Lib.hid (PB1.out.below b1)
      clear b1 k0 k1 k2 k3 k4 k5 k6
      go_wp2_with fail
      go_ret
      exact ⟨ret_int HX.out, HB2.out⟩
    · have h1b : decide (v1 < 1) = false := decide_eq_false h1
      have h1c : 1 ≤ v1 := by omega
      have V1 : Hid (¬ lev p.co < 1) := by rw [← hv1]; exact h1
      clear hv1
      go_wp2_with fail
      refine (C1.out W1 HB1.out).mono ?_; rintro e W2 ⟨rfl, b1⟩
      have HB2 : Hid (Below w.heap.size w W2) := HB1.out.trans (b1.mono HB1.out.size)
      have PB2 := Lib.hid (PB1.out.below b1)
      clear b1 k0 k1 k2 k3 k4 k5 k6
      obtain ⟨k0, k1, k2, k3, k4, k5, k6⟩ := PB2.out.cells
      obtain ⟨v2, hv2⟩ : ∃ v, v = nm p.br.data.toList := ⟨_, rfl⟩
      unfold Hid at C2
      rw [← hv2] at C2
      have C2 := Lib.hid C2
      cases v2 with
      | false =>
        have HX : Hid (92 = perr p l) := by unfold Hid perr; rw [← V0.out, if_neg (by decide), if_neg (show ¬ lev p.co < 1 by have hh := V1.out; omega), ← hv2]; rfl
        clear hv2
        go_wp2_with fail
        refine (C2.out W2).mono ?_; rintro e W3 ⟨rfl, b2⟩
        have HB3 : Hid (Below w.heap.size w W3) := HB2.out.trans (b2.mono HB2.out.size)
        have PB3 := Lib.hid (PB2.out.below b2)
        clear b2 k0 k1 k2 k3 k4 k5 k6
        go_wp2_with fail
        go_ret
        exact ⟨ret_int HX.out, HB3.out⟩
      | true =>
        have V2 := Lib.hid hv2
        clear hv2
        go_wp2_with fail
        refine (C2.out W2).mono ?_; rintro e W3 ⟨rfl, b2⟩
        have HB3 : Hid (Below w.heap.size w W3) := HB2.out.trans (b2.mono HB2.out.size)
        have PB3 := Lib.hid (PB2.out.below b2)
        clear b2 k0 k1 k2 k3 k4 k5 k6
        obtain ⟨k0, k1, k2, k3, k4, k5, k6⟩ := PB3.out.cells
        obtain ⟨v3, hv3⟩ : ∃ v : Int, v = qwhy p.d p.c p.a := ⟨_, rfl⟩
        unfold Hid at C3
        rw [← hv3] at C3
        have C3 := Lib.hid C3
        by_cases h3 : v3 = 0
        · have h3b : (v3 != 0) = false := by rw [h3]; rfl
          have V3 : Hid (¬ qwhy p.d p.c p.a ≠ 0) := by rw [← hv3]; exact fun h => h h3
          clear hv3 h3
          go_wp2_with fail
          refine (C3.out W3).mono ?_; rintro e W4 ⟨rfl, b3⟩
          have HB4 : Hid (Below w.heap.size w W4) := HB3.out.trans (b3.mono HB3.out.size)
          have PB4 := Lib.hid (PB3.out.below b3)
          clear b3 k0 k1 k2 k3 k4 k5 k6
          obtain ⟨k0, k1, k2, k3, k4, k5, k6⟩ := PB4.out.cells
          obtain ⟨v4, hv4⟩ : ∃ v, v = vA l := ⟨_, rfl⟩
          unfold Hid at C4
          rw [← hv4] at C4
          have C4 := Lib.hid C4
          cases v4 with
          | false =>
            have HX : Hid (94 = perr p l) := by unfold Hid perr; rw [← V0.out, if_neg (by decide), if_neg (show ¬ lev p.co < 1 by have hh := V1.out; omega), ← V2.out, if_neg (by decide), if_neg V3.out, ← hv4]; rfl
            clear hv4
            go_wp2_with fail
            refine (C4.out W4 HB4.out).mono ?_; rintro e W5 ⟨rfl, b4⟩
            have HB5 : Hid (Below w.heap.size w W5) := HB4.out.trans (b4.mono HB4.out.size)
            have PB5 := Lib.hid (PB4.out.below b4)
            clear b4 k0 k1 k2 k3 k4 k5 k6
            go_wp2_with fail
            go_ret
            exact ⟨ret_int HX.out, HB5.out⟩
          | true =>
            have HX : Hid (0 = perr p l) := by unfold Hid perr; rw [← V0.out, if_neg (by decide), if_neg (show ¬ lev p.co < 1 by have hh := V1.out; omega), ← V2.out, if_neg (by decide), if_neg V3.out, ← hv4]; rfl
            clear hv4
            go_wp2_with fail
            refine (C4.out W4 HB4.out).mono ?_; rintro e W5 ⟨rfl, b4⟩
            have HB5 : Hid (Below w.heap.size w W5) := HB4.out.trans (b4.mono HB4.out.size)
            have PB5 := Lib.hid (PB4.out.below b4)
            clear b4 k0 k1 k2 k3 k4 k5 k6
            go_wp2_with fail
            go_ret
            exact ⟨ret_int HX.out, HB5.out⟩
        · have h3b : (v3 != 0) = true := bne_iff_ne.2 h3
          have HX : Hid (93 = perr p l) := by unfold Hid perr; rw [← V0.out, if_neg (by decide), if_neg (show ¬ lev p.co < 1 by have hh := V1.out; omega), ← V2.out, if_neg (by decide), if_pos (by rw [← hv3]; exact h3)]
          clear hv3 h3
          go_wp2_with fail
          refine (C3.out W3).mono ?_; rintro e W4 ⟨rfl, b3⟩
          have HB4 : Hid (Below w.heap.size w W4) := HB3.out.trans (b3.mono HB3.out.size)
          have PB4 := Lib.hid (PB3.out.below b3)
          clear b3 k0 k1 k2 k3 k4 k5 k6
          go_wp2_with fail
          go_ret
          exact ⟨ret_int HX.out, HB4.out⟩
end Go.Proofs.YtkedgkfdmdlhoaaDoor.P9
