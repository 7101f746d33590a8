import Derived.Test.YtkedgkfdmdlhoaaDoorPvC
/- Layer 9: the reference's Validate. -/
namespace Go.Proofs.YtkedgkfdmdlhoaaDoor.P9
open Go.RowKit Go.Sort C6

set_option maxHeartbeats 16000000 in
set_option maxRecDepth 100000 in
theorem rValidate_v (p : Pd) (ao : Option Addr) (ca : Nat) (l : List Atr) (w : World) (h : RdA w ao ca l) (hl : l.length ≤ 1000) (sz : Sz p l) :
    Calls Tryd.prog 9 #[.agg #[.string p.id, .string p.co, .string p.br, .int .i64 p.d, .int .i64 p.c, .int .i64 p.a, .slice ao l.length ca]] w fun e w' => e = .returned (.int .i64 (perr p l)) ∧ Below w.heap.size w w' := by
  obtain ⟨n, hn⟩ : ∃ n, n = l.length := ⟨_, rfl⟩
  rw [← hn]
  obtain ⟨W0, hW0⟩ : ∃ W, W = w.alloc (.cells #[.string p.id, .string p.co, .string p.br, .int .i64 p.d, .int .i64 p.c, .int .i64 p.a, .slice ao n ca] 26) := ⟨_, rfl⟩
  obtain ⟨g, hg⟩ : ∃ g, g = w.heap.size := ⟨_, rfl⟩
  have HB0 : Hid (Below w.heap.size w W0) := by rw [hW0]; exact below_new _ _
  have PB0 : Hid (PB W0 g p (.slice ao n ca)) := by rw [hW0, hg]; exact PB.new _ _ _
  have HR := Lib.hid h
  have HN := Lib.hid hn
  have HSL : Hid (∀ x ∈ l, x.1.size ≤ 1000 ∧ x.2.size ≤ 1000) := fun x hx => by have := sz.at1 x hx; omega
  obtain ⟨ha1, ha2⟩ : n ≤ ca ∧ ca ≤ 9223372036854775807 := by have := h.1; have := h.2.1; omega
  have hn1 : n ≤ 1000 := by omega
  have C0 : Hid (∀ w', Calls Tryd.prog 26 #[.string p.id] w' fun e w'' => e = .returned (.bool (vid p.id.data.toList)) ∧ Below w'.heap.size w' w'') := fun w' => rValidID_v p.id w'
  have C1 : Hid (∀ w', Calls Tryd.prog 27 #[.string p.co] w' fun e w'' => e = .returned (.bool (P p.co).isSome) ∧ Below w'.heap.size w' w'') := fun w' => Is_v p.co (by have := sz.co; omega) w'
  have C2 : Hid (∀ w', Calls Tryd.prog 28 #[.string p.br] w' fun e w'' => e = .returned (.bool (nm p.br.data.toList)) ∧ Below w'.heap.size w' w'') := fun w' => rname_v p.br (by have := sz.br; omega) w'
  have C3 : Hid (∀ w', Calls Tryd.prog 29 #[.agg #[.int .i64 p.d, .int .i64 p.c, .int .i64 p.a]] w' fun e w'' => e = .returned (.int .i64 (qwhy p.d p.c p.a)) ∧ Below w'.heap.size w' w'') := fun w' => rValidate_q p.d p.c p.a sz.qb w'
  clear h hl sz hn
  obtain ⟨k0, k1, k2, k3, k4, k5, k6⟩ := PB0.out.cells
  go_enter Tryd.func9, Tryd.ntmps9
  go_upto_region 1 with fail
  rw [← hW0]
  try rw [← hg]
  clear hW0 hg
  obtain ⟨v0, hv0⟩ : ∃ v, v = vid p.id.data.toList := ⟨_, rfl⟩
  unfold Hid at C0
  rw [← hv0] at C0
  have C0 := Lib.hid C0
  cases v0 with
  | false =>
    have HX : Hid (90 = perr p l) := by unfold Hid perr; rw [← hv0]; rfl
    clear hv0
    go_wp2_with fail
    refine (C0.out W0).mono ?_; rintro e W1 ⟨rfl, b0⟩
    have HB1 : Hid (Below w.heap.size w W1) := HB0.out.trans (b0.mono HB0.out.size)
    have PB1 := Lib.hid (PB0.out.below b0)
    clear b0 k0 k1 k2 k3 k4 k5 k6
    go_wp2_with fail
    go_ret
    exact ⟨ret_int HX.out, HB1.out⟩
  | true =>
    have V0 := Lib.hid hv0
    clear hv0
    go_wp2_with fail
    refine (C0.out W0).mono ?_; rintro e W1 ⟨rfl, b0⟩
    have HB1 : Hid (Below w.heap.size w W1) := HB0.out.trans (b0.mono HB0.out.size)
    have PB1 := Lib.hid (PB0.out.below b0)
    clear b0 k0 k1 k2 k3 k4 k5 k6
    obtain ⟨k0, k1, k2, k3, k4, k5, k6⟩ := PB1.out.cells
    obtain ⟨v1, hv1⟩ : ∃ v, v = (P p.co).isSome := ⟨_, rfl⟩
    unfold Hid at C1
    rw [← hv1] at C1
    have C1 := Lib.hid C1
    cases v1 with
    | false =>
      have HX : Hid (91 = perr p l) := by unfold Hid perr; rw [← V0.out, if_neg (by decide), if_pos (lev_none hv1.symm)]
      clear hv1
      go_wp2_with fail
      refine (C1.out W1).mono ?_; rintro e W2 ⟨rfl, b1⟩
      have HB2 : Hid (Below w.heap.size w W2) := HB1.out.trans (b1.mono HB1.out.size)
      have PB2 := Lib.hid (PB1.out.below b1)
      clear b1 k0 k1 k2 k3 k4 k5 k6
      go_wp2_with fail
      go_ret
      exact ⟨ret_int HX.out, HB2.out⟩
    | true =>
      have V1 : Hid (¬ lev p.co < 1) := lev_some hv1.symm
      clear hv1
      go_wp2_with fail
      refine (C1.out W1).mono ?_; rintro e W2 ⟨rfl, b1⟩
      have HB2 : Hid (Below w.heap.size w W2) := HB1.out.trans (b1.mono HB1.out.size)
      have PB2 := Lib.hid (PB1.out.below b1)
      clear b1 k0 k1 k2 k3 k4 k5 k6
      obtain ⟨k0, k1, k2, k3, k4, k5, k6⟩ := PB2.out.cells
      obtain ⟨v2, hv2⟩ : ∃ v, v = nm p.br.data.toList := ⟨_, rfl⟩
      unfold Hid at C2
      rw [← hv2] at C2
      have C2 := Lib.hid C2
      cases v2 with
      | false =>
        have HX : Hid (92 = perr p l) := by unfold Hid perr; rw [← V0.out, if_neg (by decide), if_neg (show ¬ lev p.co < 1 by have hh := V1.out; omega), ← hv2]; rfl
        clear hv2
        go_wp2_with fail
        refine (C2.out W2).mono ?_; rintro e W3 ⟨rfl, b2⟩
        have HB3 : Hid (Below w.heap.size w W3) := HB2.out.trans (b2.mono HB2.out.size)
        have PB3 := Lib.hid (PB2.out.below b2)
        clear b2 k0 k1 k2 k3 k4 k5 k6
        go_wp2_with fail
        go_ret
        exact ⟨ret_int HX.out, HB3.out⟩
      | true =>
        have V2 := Lib.hid hv2
        clear hv2
        go_wp2_with fail
        refine (C2.out W2).mono ?_; rintro e W3 ⟨rfl, b2⟩
        have HB3 : Hid (Below w.heap.size w W3) := HB2.out.trans (b2.mono HB2.out.size)
        have PB3 := Lib.hid (PB2.out.below b2)
        clear b2 k0 k1 k2 k3 k4 k5 k6
        obtain ⟨k0, k1, k2, k3, k4, k5, k6⟩ := PB3.out.cells
        obtain ⟨v3, hv3⟩ : ∃ v : Int, v = qwhy p.d p.c p.a := ⟨_, rfl⟩
        unfold Hid at C3
        rw [← hv3] at C3
        have C3 := Lib.hid C3
        by_cases h3 : v3 = 0
        · have h3b : (v3 != 0) = false := by rw [h3]; rfl
          have V3 : Hid (¬ qwhy p.d p.c p.a ≠ 0) := by rw [← hv3]; exact fun h => h h3
          clear hv3 h3
          go_wp2_with fail
          refine (C3.out W3).mono ?_; rintro e W4 ⟨rfl, b3⟩
          have HB4 : Hid (Below w.heap.size w W4) := HB3.out.trans (b3.mono HB3.out.size)
          have PB4 := Lib.hid (PB3.out.below b3)
          clear b3 k0 k1 k2 k3 k4 k5 k6
          obtain ⟨k0, k1, k2, k3, k4, k5, k6⟩ := PB4.out.cells
          have HBad : Hid (vA l = false → 94 = perr p l) := fun h => by unfold perr; rw [← V0.out, if_neg (by decide), if_neg (show ¬ lev p.co < 1 by have hh := V1.out; omega), ← V2.out, if_neg (by decide), if_neg V3.out, h]; rfl
          have HOk : Hid (vA l = true → 0 = perr p l) := fun h => by unfold perr; rw [← V0.out, if_neg (by decide), if_neg (show ¬ lev p.co < 1 by have hh := V1.out; omega), ← V2.out, if_neg (by decide), if_neg V3.out, h]; rfl
          clear C0 C1 C2 C3 V0 V1 V2 V3
          by_cases h12 : n ≤ 12
          · have h12I : ¬ (12 : Int) < (n : Int) := by omega
            have h12J : (n : Int) ≤ 12 := by omega
            have HB0' := HB4
            have P0' := PB4
            go_wp2_with fail
            go_loopw [30] (fun s30 wr => ∃ i : Nat, i ≤ n ∧ s30 = .int .i64 (i : Int) ∧ Hid (vAt l i = true) ∧ Hid (PB wr g p (.slice ao n ca)) ∧ Hid (Below w.heap.size w wr)) (fun s30 _ => n - (intOf s30).toNat)
            case atStart => exact ⟨0, by omega, rfl, rfl, P0', HB0'⟩
            case round =>
              obtain ⟨i, him, rfl, hva, hpb, hbl⟩ := hrel
              clear k0 k1 k2 k3 k4 k5 k6
              obtain ⟨k0, k1, k2, k3, k4, k5, k6⟩ := hpb.out.cells
              by_cases hlt : i < n
              · have hltI : (i : Int) < (n : Int) := by omega
                obtain ⟨b, o', rfl, hcs⟩ := (HR.out.below hbl.out).at (i := i) (by have := HN.out; omega)
                obtain ⟨c0, c1⟩ := hcs i (by have := HN.out; omega)
                have hsz := HSL.out (l.getD i e2) (by have : i < l.length := by have := HN.out; omega
                                                      simp [List.getD, this])
                have hok : okA l i = (nm (l.getD i e2).1.data.toList && nm (l.getD i e2).2.data.toList && !inS (l.getD i e2).1 ((l.take i).map (·.1))) := rfl
                obtain ⟨x, hx⟩ : ∃ x, x = l.getD i e2 := ⟨_, rfl⟩
                rw [← hx] at c0 c1 hsz hok
                obtain ⟨x1, x2⟩ := x
                obtain ⟨z1, z2⟩ := hsz
                obtain ⟨W5, hW5⟩ : ∃ W, W = wr.alloc (.cells #[.string x1, .string x2] 52) := ⟨_, rfl⟩
                obtain ⟨g5, hg5⟩ : ∃ g, g = wr.heap.size := ⟨_, rfl⟩
                have b5 : Below wr.heap.size wr W5 := by rw [hW5]; exact below_new _ _
                have x5 : Hid (W5.heap[g5]? = some (.cells #[.string x1, .string x2] 52 (0, 0))) := by rw [hW5, hg5]; exact heap_alloc_new _ _
                have HB5 : Hid (Below w.heap.size w W5) := keep hbl.out b5
                have HP5 := Lib.hid (hpb.out.below b5)
                have hic : i < ca := by omega
                have hicI : (i : Int) ≤ (ca : Int) := by omega
                obtain ⟨v1, hv1⟩ : ∃ v, v = nm x1.data.toList := ⟨_, rfl⟩
                obtain ⟨v2, hv2⟩ : ∃ v, v = nm x2.data.toList := ⟨_, rfl⟩
                have N1 : Hid (∀ w', Calls Tryd.prog 28 #[.string x1] w' fun e w2 => e = .returned (.bool v1) ∧ Below w'.heap.size w' w2) := fun w' => by rw [hv1]; exact rname_v x1 z1 w'
                have N2 : Hid (∀ w', Calls Tryd.prog 28 #[.string x2] w' fun e w2 => e = .returned (.bool v2) ∧ Below w'.heap.size w' w2) := fun w' => by rw [hv2]; exact rname_v x2 z2 w'
                simp only at hok
                rw [← hv1, ← hv2] at hok
                have HOK := Lib.hid hok
                have HAB : Hid (okA l i = false → 94 = perr p l) := fun h => HBad.out (vA_bad h (by rw [← HN.out]; exact hlt))
                clear hx hcs hpb hbl b5 hv1 hv2 hok k0 k1 k2 k3 k4 k5 k6
                go_upto_region 14 with fail
                rw [← hW5]
                try rw [← hg5]
                clear hW5 hg5 c0 c1
                obtain ⟨f0, f1⟩ : W5.cell? ⟨g5, 0, none⟩ = some (.string x1) ∧ W5.cell? ⟨g5, 1, none⟩ = some (.string x2) := by have := x5.out; constructor <;> simp [World.cell?, this]
                cases v1 with
                | false =>
                  have HX := Lib.hid (HAB.out (by rw [HOK.out]; simp))
                  go_wp2_with fail
                  refine (N1.out _).mono ?_; rintro e w6 ⟨rfl, b6⟩
                  have HB6 : Hid (Below w.heap.size w w6) := HB5.out.trans (b6.mono HB5.out.size)
                  clear b6 f0 f1
                  go_wp2_with fail
                  go_ret
                  exact ⟨ret_int HX.out, HB6.out⟩
                | true =>
                  go_wp2_with fail
                  refine (N1.out _).mono ?_; rintro e w6 ⟨rfl, b6⟩
                  have HB6 : Hid (Below w.heap.size w w6) := HB5.out.trans (b6.mono HB5.out.size)
                  have HP6 := Lib.hid (HP5.out.below b6)
                  have x6 := Lib.hid (carry2 x5.out b6)
                  clear b6 f0 f1
                  obtain ⟨f0, f1⟩ : w6.cell? ⟨g5, 0, none⟩ = some (.string x1) ∧ w6.cell? ⟨g5, 1, none⟩ = some (.string x2) := by have := x6.out; constructor <;> simp [World.cell?, this]
                  cases v2 with
                  | false =>
                    have HX := Lib.hid (HAB.out (by rw [HOK.out]; simp))
                    go_wp2_with fail
                    refine (N2.out _).mono ?_; rintro e w7 ⟨rfl, b7⟩
                    have HB7 : Hid (Below w.heap.size w w7) := HB6.out.trans (b7.mono HB6.out.size)
                    clear b7 f0 f1
                    go_wp2_with fail
                    go_ret
                    exact ⟨ret_int HX.out, HB7.out⟩
                  | true =>
                    go_wp2_with fail
                    refine (N2.out _).mono ?_; rintro e w7 ⟨rfl, b7⟩
                    have HB7 : Hid (Below w.heap.size w w7) := HB6.out.trans (b7.mono HB6.out.size)
                    have HP7 := Lib.hid (HP6.out.below b7)
                    have x7 := Lib.hid (carry2 x6.out b7)
                    have HS : Hid (∀ j, j < i → (l.getD j e2).1 = x1 → okA l i = false) := fun j hj e => by
                      rw [HOK.out, inS_pos (by rw [← e]; exact mem_names hj (by rw [← HN.out]; omega))]
                      simp
                    have HT : Hid ((∀ j, j < i → (l.getD j e2).1 ≠ x1) → okA l i = true) := fun h => by
                      rw [HOK.out, inS_neg (fun hm => by
                        obtain ⟨j, hj, e⟩ := names_mem hm (by rw [← HN.out]; omega)
                        exact h j hj e)]
                      rfl
                    clear b7 f0 f1 HOK N1 N2
                    obtain ⟨k0, k1, k2, k3, k4, k5, k6⟩ := HP7.out.cells
                    go_wp2_with fail
                    clear k0 k1 k2 k3 k4 k5 k6
                    go_loopw [50] (fun s50 wi => ∃ j : Nat, j ≤ i ∧ s50 = .int .i64 (j : Int) ∧ Hid (∀ q, q < j → (l.getD q e2).1 ≠ x1) ∧ Hid (PB wi g p (.slice (some ⟨b, o', none⟩) n ca)) ∧ Hid (wi.heap[g5]? = some (.cells #[.string x1, .string x2] 52 (0, 0))) ∧ Hid (Below w.heap.size w wi)) (fun s50 _ => i - (intOf s50).toNat)
                    case atStart => exact ⟨0, by omega, rfl, fun q hq => absurd hq (Nat.not_lt_zero _), HP7, x7, HB7⟩
                    case round =>
                      obtain ⟨j, hji, rfl, hne, hpb, hx5, hbl⟩ := hrel
                      by_cases hjl : j < i
                      · have hjlI : (j : Int) < (i : Int) := by omega
                        obtain ⟨b1, o1, e1, hcs⟩ := (HR.out.below hbl.out).at (i := j) (by have := HN.out; omega)
                        cases e1
                        obtain ⟨c0, c1⟩ := hcs j (by have := HN.out; omega)
                        obtain ⟨y, hy⟩ : ∃ y, y = l.getD j e2 := ⟨_, rfl⟩
                        rw [← hy] at c0 c1
                        obtain ⟨y1, y2⟩ := y
                        obtain ⟨W8, hW8⟩ : ∃ W, W = wr.alloc (.cells #[.string y1, .string y2] 52) := ⟨_, rfl⟩
                        obtain ⟨g8, hg8⟩ : ∃ g, g = wr.heap.size := ⟨_, rfl⟩
                        have b8 : Below wr.heap.size wr W8 := by rw [hW8]; exact below_new _ _
                        have x8 : Hid (W8.heap[g8]? = some (.cells #[.string y1, .string y2] 52 (0, 0))) := by rw [hW8, hg8]; exact heap_alloc_new _ _
                        have HB8 : Hid (Below w.heap.size w W8) := keep hbl.out b8
                        have HP8 := Lib.hid (hpb.out.below b8)
                        have hx8 := Lib.hid (carry2 hx5.out b8)
                        have hy1 : Hid (y1 = (l.getD j e2).1) := by unfold Hid; rw [← hy]
                        clear hy hcs hpb hx5 hbl b8
                        go_upto_region 19 with fail
                        rw [← hW8]
                        try rw [← hg8]
                        clear hW8 hg8 c0 c1
                        obtain ⟨f0, f1⟩ : W8.cell? ⟨g5, 0, none⟩ = some (.string x1) ∧ W8.cell? ⟨g5, 1, none⟩ = some (.string x2) := by have := hx8.out; constructor <;> simp [World.cell?, this]
                        obtain ⟨d0, d1⟩ : W8.cell? ⟨g8, 0, none⟩ = some (.string y1) ∧ W8.cell? ⟨g8, 1, none⟩ = some (.string y2) := by have := x8.out; constructor <;> simp [World.cell?, this]
                        by_cases he : x1 = y1
                        · have hb : (x1.toList == y1.toList) = true := by rw [he]; simp
                          have HX := Lib.hid (HAB.out (HS.out j hjl (by rw [he]; exact hy1.out.symm)))
                          clear he
                          go_wp2_with fail
                          go_ret
                          exact ⟨ret_int HX.out, HB8.out⟩
                        · have hb : (x1.toList == y1.toList) = false := bytes_neq he
                          have HN2 : Hid (∀ q, q < j + 1 → (l.getD q e2).1 ≠ x1) := fun q hq => by
                            by_cases e : q = j
                            · rw [e, ← hy1.out]; exact fun h => he h.symm
                            · exact hne.out q (by omega)
                          clear he hne
                          go_wp2_with fail
                          go_roundw
                          case rel => exact ⟨j + 1, by omega, by go_num, HN2, HP8, hx8, HB8⟩
                          case measure => simp [intOf]; omega
                      · obtain rfl : j = i := by omega
                        have hjlI : ¬ (j : Int) < (j : Int) := by omega
                        have HVA : Hid (vAt l (j + 1) = true) := by
                          show (vAt l j && okA l j) = true
                          rw [hva.out, HT.out hne.out]
                          rfl
                        go_wp2_with fail
                        go_roundw
                        case rel => exact ⟨j + 1, by omega, by go_num, HVA, hpb, hbl⟩
                        case measure => simp [intOf]; omega
              · obtain rfl : i = n := by omega
                have hlt2 : ¬ (i : Int) < (i : Int) := by omega
                have HX := Lib.hid (HOk.out (by unfold vA; rw [decide_eq_true (by rw [← HN.out]; exact h12), ← HN.out, hva.out]; rfl))
                go_wp2_with fail
                go_ret
                exact ⟨ret_int HX.out, hbl.out⟩
          · have h12I : (12 : Int) < (n : Int) := by omega
            have HX := Lib.hid (HBad.out (by unfold vA; rw [decide_eq_false (by rw [← HN.out]; exact h12)]; rfl))
            go_wp2_with fail
            go_ret
            exact ⟨ret_int HX.out, HB4.out⟩
        · have h3b : (v3 != 0) = true := bne_iff_ne.2 h3
          have HX : Hid (93 = perr p l) := by unfold Hid perr; rw [← V0.out, if_neg (by decide), if_neg (show ¬ lev p.co < 1 by have hh := V1.out; omega), ← V2.out, if_neg (by decide), if_pos (by rw [← hv3]; exact h3)]
          clear hv3 h3
          go_wp2_with fail
          refine (C3.out W3).mono ?_; rintro e W4 ⟨rfl, b3⟩
          have HB4 : Hid (Below w.heap.size w W4) := HB3.out.trans (b3.mono HB3.out.size)
          have PB4 := Lib.hid (PB3.out.below b3)
          clear b3 k0 k1 k2 k3 k4 k5 k6
          go_wp2_with fail
          go_ret
          exact ⟨ret_int HX.out, HB4.out⟩
end Go.Proofs.YtkedgkfdmdlhoaaDoor.P9
