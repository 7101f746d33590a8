import Derived.Test.YtkedgkfdmdlhoaaDoorPmB
import Derived.Test.YtkedgkfdmdlhoaaDoorFold6
import Derived.Test.YtkedgkfdmdlhoaaDoorPrd1
/- ProductMany for all inputs: a catalog of the greatest number of products is allowed, one more is not. -/
namespace Go.Proofs.YtkedgkfdmdlhoaaDoor.P9
open Go.RowKit Go.Sort C6

theorem infoPrd : (Tryd.prog.info? 26).map (fun i => (i.zero, i.size, i.bytes)) = some (some (.agg #[.string ByteArray.empty, .string ByteArray.empty, .string ByteArray.empty, .int .i64 0, .int .i64 0, .int .i64 0, .slice none 0 0]), 7, 96) := by kernel_rfl
def ptv1 (u : It) : List Value := [.string u.p.id, .string u.p.co, .string u.p.br, .int .i64 u.p.d, .int .i64 u.p.c, .int .i64 u.p.a, .slice u.a u.l.length u.c]
def ptv (us : List It) : List Value := us.flatMap ptv1
theorem ptv_length (us : List It) : (ptv us).length = us.length * 7 := by
  induction us with
  | nil => rfl
  | cons u us ih => show (ptv1 u ++ ptv us).length = _; rw [List.length_append, ih]; show 7 + _ = _; simp only [List.length_cons]; omega
theorem ptv_snoc (us : List It) (u : It) : ptv (us ++ [u]) = ptv us ++ ptv1 u := by simp [ptv]
theorem ptv_get : ∀ (us : List It) (i : Nat), i < us.length → ∀ j, j < 7 → (ptv us)[i * 7 + j]? = (ptv1 (us.getD i It.zero))[j]?
  | [], i, h, _, _ => by simp at h
  | u :: us, 0, _, j, hj => by
    show (ptv1 u ++ ptv us)[0 * 7 + j]? = (ptv1 u)[j]?
    rw [Nat.zero_mul, Nat.zero_add, List.getElem?_append_left (by show j < 7; omega)]
  | u :: us, i + 1, h, j, hj => by
    have hl : (ptv1 u).length = 7 := rfl
    show (ptv1 u ++ ptv us)[(i + 1) * 7 + j]? = (ptv1 (us.getD i It.zero))[j]?
    rw [List.getElem?_append_right (by omega), hl, show (i + 1) * 7 + j - 7 = i * 7 + j by omega]
    exact ptv_get us i (by simpa using h) j hj
/-- the law's list under way -/
structure Mn (w wr : World) (M B i : Nat) (ao : Option Addr) (cap : Nat) (us : List It) : Prop where
  len : us.length = i
  own : wr.ownsRow M 26 7 (.slice ao i cap) i (ptv us)
  its : ∀ u ∈ us, wr.ownsRow M 52 2 (.slice u.a u.l.length u.c) u.l.length (atv u.l) ∧ u.l.length ≤ 14 ∧ Sz u.p u.l
  ids : Itms us
  tap : Tap wr B none 0 0 (5 * i)
  bel : Below w.heap.size w wr
  siz : M ≤ wr.heap.size
theorem own_two {w : World} {M N n m c d k : Nat} {a ao : Option Addr} {xs ys : List Value} (h : w.ownsRow M 52 2 (.slice a n c) n xs) (h2 : w.ownsRow N 26 k (.slice ao m d) m ys) : (Value.slice a n c).ownBlock = none ∨ (Value.slice a n c).ownBlock ≠ (Value.slice ao m d).ownBlock := by
  rcases h.2 with ⟨e, _⟩ | ⟨g', cap', cur, e, hb, hg, _⟩
  · left; rw [e]; rfl
  · right
    cases e
    rcases h2.2 with ⟨e, _⟩ | ⟨g2, cap2, cur2, e2, hb2, hg2, _⟩
    · rw [e]; intro e3; cases e3
    · cases e2
      intro e3
      have e4 : g' = g2 := Option.some.inj e3
      subst e4
      rw [hg] at hg2
      simp at hg2
theorem seven_cell (w : World) (p : Pd) (a : Option Addr) (n c : Nat) : ∀ j u, [Value.string p.id, .string p.co, .string p.br, .int .i64 p.d, .int .i64 p.c, .int .i64 p.a, .slice a n c][j]? = some u → (w.alloc (.cells #[.string p.id, .string p.co, .string p.br, .int .i64 p.d, .int .i64 p.c, .int .i64 p.a, .slice a n c] 26)).cell? ((⟨w.heap.size, 0, none⟩ : Addr).add j) = some u := by
  intro j u hj
  have h := heap_alloc_new w (.cells #[.string p.id, .string p.co, .string p.br, .int .i64 p.d, .int .i64 p.c, .int .i64 p.a, .slice a n c] 26)
  rw [Addr.add_lit, Nat.zero_add]
  have hl : j < 7 := (List.getElem?_eq_some_iff.1 hj).1
  have : j = 0 ∨ j = 1 ∨ j = 2 ∨ j = 3 ∨ j = 4 ∨ j = 5 ∨ j = 6 := by omega
  rcases this with rfl | rfl | rfl | rfl | rfl | rfl | rfl <;> · cases hj; exact cell_in h rfl
theorem Mn.rd {w wr : World} {M B i : Nat} {ao : Option Addr} {cap : Nat} {us : List It} (h : Mn w wr M B i ao cap us) : RdP wr ao cap us := by
  have hl := h.len
  have ok : ∀ u ∈ us, u.ok wr := fun u hu => by
    obtain ⟨h1, h2, h3⟩ := h.its u hu
    obtain ⟨ao', cp', e', r', _⟩ := RdA.of_row h1
    injection e' with e1 _ e3
    exact ⟨by rw [e1, e3]; exact r', h2, h3⟩
  rcases h.own.2 with ⟨e, h0⟩ | ⟨g, cap', cur, e, hb, hg, hn, hc, hs, hx⟩
  · injection e with e1 e2 e3
    exact ⟨by omega, by omega, .inl (List.eq_nil_of_length_eq_zero (by omega)), ok⟩
  · cases e
    refine ⟨by omega, by unfold maxLen at hc; omega, .inr ⟨g, 0, rfl, fun j hj => ?_⟩, ok⟩
    have key : ∀ q v, q < 7 → (ptv1 (us.getD j It.zero))[q]? = some v → wr.cell? ⟨g, 0 + j * 7 + q, none⟩ = some v := fun q v hq hv => by
      rw [Nat.zero_add]
      have h1 := ptv_get us j hj q hq
      rw [hv] at h1
      rw [← hx, List.getElem?_take] at h1
      split at h1
      · simpa [World.cell?, hg] using h1
      · cases h1
    exact ⟨key 0 _ (by omega) rfl, key 1 _ (by omega) rfl, key 2 _ (by omega) rfl, key 3 _ (by omega) rfl, key 4 _ (by omega) rfl, key 5 _ (by omega) rfl, key 6 _ (by omega) rfl⟩

set_option maxHeartbeats 16000000 in
set_option maxRecDepth 100000 in
theorem ProductMany_any (x : Int) (w : World) (hev : ErrV w) :
    Calls Tryd.prog 5 #[.int .i64 x] w fun e w' => e = .returned (.bool true) ∧ Below w.heap.size w w' := by
  obtain ⟨i0, hi, hz0, hz1, hz2⟩ := info_parts infoPrd
  obtain ⟨W1, hW1⟩ : ∃ W, W = w.alloc (.cells #[.slice none 0 0, .int .i64 0] 31) := ⟨_, rfl⟩
  obtain ⟨B, hB⟩ : ∃ B, B = w.heap.size := ⟨_, rfl⟩
  have b1 : Below w.heap.size w W1 := by rw [hW1]; exact below_new _ _
  have s1 : W1.heap.size = w.heap.size + 1 := by rw [hW1]; exact World.size_alloc _ _
  have T1 : Hid (Tap W1 B none 0 0 (5 * 0)) := by rw [hW1, hB]; exact Tap.new w none 0 0
  have HEV := Lib.hid (fun (W : World) (h : Below w.heap.size w W) => hev.below h)
  have HB1 := Lib.hid b1
  obtain ⟨M, hM⟩ : ∃ M, M = W1.heap.size := ⟨_, rfl⟩
  have HG : Hid (B = w.heap.size ∧ M = B + 1 ∧ M = W1.heap.size) := ⟨hB, by omega, hM⟩
  clear hev b1
  go_enter Tryd.func5, Tryd.ntmps5
  go_wp2_with fail
  rw [← hW1]
  try rw [← hB]
  clear hW1 hB s1 hM
  refine (Fold_v x 3 (by omega) (by omega) W1 3 rfl).mono ?_; rintro e w2 ⟨r, rfl, hr3, rfl⟩
  have hwr : (199 : Int) + (r : Int) ≤ 201 := by omega
  obtain ⟨N, hN⟩ : ∃ N : Nat, N = 199 + r := ⟨_, rfl⟩
  have hNr : (199 : Int) + (r : Int) = (N : Int) := by omega
  have hNb : 199 ≤ N ∧ N ≤ 201 := by omega
  clear hN hr3
  have M0 : Hid (Mn w W1 M B 0 none 0 []) := ⟨rfl, ⟨rfl, .inl ⟨rfl, rfl⟩⟩, fun u hu => by simp at hu, fun i hi => by simp at hi, T1.out, HB1.out, by have := HG.out; omega⟩
  go_wp2_with fail
  go_loopw [4, 12] (fun s4 s12 wr => ∃ (i : Nat) (ao : Option Addr) (cap : Nat) (us : List It), i ≤ N ∧ s12 = .int .i64 (i : Int) ∧ s4 = .slice ao i cap ∧ Hid (Mn w wr M B i ao cap us)) (fun _ s12 _ => N - (intOf s12).toNat)
  case atStart => exact ⟨0, none, 0, [], by omega, rfl, rfl, M0⟩
  case round =>
    obtain ⟨i, ao, cap, us, hin, rfl, rfl, hmn⟩ := hrel
    by_cases hlt : i < N
    · have hlt2 : (i : Int) < (N : Int) := by omega
      have IT := Lib.hid (Item_v i (by omega) (i : Int) rfl B none 0 [] (5 * i) wr hmn.out.tap (RdV.nil _) (fun h => by simp [intz] at h) (by omega))
      go_wp2_with fail
      refine IT.out.mono ?_; rintro e w3 ⟨p, ga, l, ca, cb, rfl, hitm, hca, hcb, hl, hown, hgb, htp⟩
      have hmo := hmn.out
      have hl2 : l.length = 2 := by rcases hl with h | h <;> rw [h] <;> rfl
      have HI : Hid (ITM i p ∧ perr p l = 0 ∧ Sz p l ∧ l.length = 2) := ⟨hitm, item_ok hitm hca hcb hl, item_sz2 hitm hca hcb hl, hl2⟩
      have kne : ∀ {n c k : Nat} {e : TypeId} {a : Option Addr} {xs : List Value}, wr.ownsRow M e k (.slice a n c) n xs → (Value.slice a n c).ownBlock = none ∨ (Value.slice a n c).ownBlock ≠ some B := fun h => row_ne h (by have := HG.out; omega)
      have HO3 : Hid (w3.ownsRow M 26 7 (.slice ao i cap) i (ptv us)) := hmo.own.kept hgb (kne hmo.own)
      have HA3 : Hid (∀ u ∈ us, w3.ownsRow M 52 2 (.slice u.a u.l.length u.c) u.l.length (atv u.l) ∧ u.l.length ≤ 14 ∧ Sz u.p u.l) := fun u hu => ⟨(hmo.its u hu).1.kept hgb (kne (hmo.its u hu).1), (hmo.its u hu).2⟩
      have HN3 : Hid (w3.ownsRow M 52 2 (.slice (some ⟨ga, 0, none⟩) 2 2) 2 (atv l)) := ⟨hown.1, hown.2.imp id fun ⟨g, c', cur, hv, h1, h2⟩ => ⟨g, c', cur, hv, Nat.le_trans hmo.siz h1, h2⟩⟩
      have HB3 : Hid (Below w.heap.size w w3) := ⟨hgb.os.trans hmo.bel.os, hgb.tape.trans hmo.bel.tape, hgb.output.trans hmo.bel.output, Nat.le_trans hmo.bel.size hgb.size, fun k hk => (hgb.block k (Nat.lt_of_lt_of_le hk hmo.bel.size) (fun e => by have := Option.some.inj e; have := HG.out.1; omega)).trans (hmo.bel.block k hk)⟩
      have HS3 : Hid (M ≤ w3.heap.size ∧ us.length = i ∧ i < N) := ⟨Nat.le_trans hmo.siz hgb.size, hmo.len, hlt⟩
      have HT3 := Lib.hid htp
      have HD3 := Lib.hid hmo.ids
      have hi2 : i + 1 ≤ 201 := by omega
      clear hitm hca hcb hl hown hgb htp hmo hl2 kne
      go_wp2_with (at_builtin; refine wpList_append_own _ rfl _ _ 37 rfl M 26 i0 (.agg #[.string ByteArray.empty, .string ByteArray.empty, .string ByteArray.empty, .int .i64 0, .int .i64 0, .int .i64 0, .slice none 0 0]) 7 96 Tryd.underlying37 hi hz0 hz1 hz2 rfl (by omega) _ _ _ rfl (HO3.out.alloc _) ⟨w3.heap.size, 0, none⟩ 1 1 [.string p.id, .string p.co, .string p.br, .int .i64 p.d, .int .i64 p.c, .int .i64 p.a, .slice (some ⟨ga, 0, none⟩) 2 2] rfl rfl (seven_cell _ _ _ _ _) (by intro u hu; simp at hu; rcases hu with rfl | rfl | rfl | rfl | rfl | rfl | rfl <;> rfl) (by unfold maxLen; omega) (by omega) (by simp; exact Nat.le_trans HS3.out.1 (Nat.le_succ _)) ?_; intro v5 w5 hown5 hgr5 _)
      obtain ⟨a5, c5, rfl⟩ := of_row_n hown5
      obtain ⟨hI1, hI2, hI3, hI4⟩ := HI.out
      have hown6 : w5.ownsRow M 26 7 (.slice a5 (i + 1) c5) (i + 1) (ptv (us ++ [⟨p, some ⟨ga, 0, none⟩, l, 2⟩])) := by rw [ptv_snoc]; show w5.ownsRow M 26 7 (.slice a5 (i + 1) c5) (i + 1) (ptv us ++ [.string p.id, .string p.co, .string p.br, .int .i64 p.d, .int .i64 p.c, .int .i64 p.a, .slice (some ⟨ga, 0, none⟩) l.length 2]); rw [hI4]; exact hown5
      have MN : Hid (Mn w w5 M B (i + 1) a5 c5 (us ++ [⟨p, some ⟨ga, 0, none⟩, l, 2⟩])) := by
        have hO := HO3.out.alloc (.cells #[.string p.id, .string p.co, .string p.br, .int .i64 p.d, .int .i64 p.c, .int .i64 p.a, .slice (some ⟨ga, 0, none⟩) 2 2] 26)
        have hrow : ∀ k, (Value.slice ao i cap).ownBlock = some k → M ≤ k := fun k e => (HO3.out.lt k e).1
        refine ⟨by rw [List.length_append, HS3.out.2.1]; rfl, hown6, fun u hu => ?_, fun j hj => ?_, ?_, ?_, ?_⟩
        · rcases List.mem_append.1 hu with hu | hu
          · obtain ⟨h1, h2⟩ := HA3.out u hu
            exact ⟨(h1.alloc _).kept hgr5 (own_two (h1.alloc _) hO), h2⟩
          · simp at hu
            subst hu
            have h1 := HN3.out
            refine ⟨?_, by show l.length ≤ 14; omega, hI3⟩
            show w5.ownsRow M 52 2 (.slice (some ⟨ga, 0, none⟩) l.length 2) l.length (atv l)
            rw [hI4]
            exact (h1.alloc _).kept hgr5 (own_two (h1.alloc _) hO)
        · rw [List.length_append, HS3.out.2.1] at hj
          have hul := HS3.out.2.1
          by_cases hji : j < i
          · have : (us ++ [(⟨p, some ⟨ga, 0, none⟩, l, 2⟩ : It)]).getD j It.zero = us.getD j It.zero := by simp [List.getD, List.getElem?_append_left (by omega : j < us.length)]
            rw [this]
            exact HD3.out j (by omega)
          · obtain rfl : j = i := by simp at hj; omega
            have : (us ++ [(⟨p, some ⟨ga, 0, none⟩, l, 2⟩ : It)]).getD j It.zero = ⟨p, some ⟨ga, 0, none⟩, l, 2⟩ := by rw [← hul]; simp [List.getD]
            rw [this]
            exact ⟨hI1.1, hI2⟩
        · have h1 := (HT3.out.alloc (.cells #[.string p.id, .string p.co, .string p.br, .int .i64 p.d, .int .i64 p.c, .int .i64 p.a, .slice (some ⟨ga, 0, none⟩) 2 2] 26)).grown hgr5 (fun e => by have := hrow B e.symm; have := HG.out; omega)
          exact h1
        · exact app_below HB3.out HB3.out.size hgr5 (fun k e => by have := hrow k e; have := HG.out; omega)
        · have h1 := hgr5.size
          rw [World.size_alloc] at h1
          have := HS3.out.1
          omega
      clear hown5 hown6 hgr5 hI1 hI2 hI3 hI4
      go_wp2_with fail
      go_roundw
      case rel => exact ⟨i + 1, a5, c5, _, by omega, by go_num, by go_num, MN⟩
      case measure => simp [intOf]; omega
    · obtain rfl : i = N := by omega
      have hlt2 : ¬ (i : Int) < (i : Int) := by omega
      have VC := Lib.hid (ValidateCatalog_v ao cap us wr hmn.out.rd (HEV.out wr hmn.out.bel))
      have HLN : Hid (us.length = i) := hmn.out.len
      have hce := hmn.out.ids.cerr (by have := HLN.out; omega)
      rw [HLN.out] at VC hce
      have HB4 : Hid (Below w.heap.size w wr) := hmn.out.bel
      clear hmn
      by_cases h200 : 200 < i
      · rw [if_pos h200] at hce
        rw [hce] at VC
        have hg : decide ((200 : Int) < (i : Int)) = true := decide_eq_true (by omega)
        clear hce
        go_wp2_with fail
        refine VC.out.mono ?_; rintro e w6 ⟨rfl, b6⟩
        have HB6 : Hid (Below w.heap.size w w6) := keep HB4.out b6
        clear b6
        go_wp2_with fail
        refine (awake_v w6).mono ?_; rintro e w7 ⟨rfl, b7⟩
        have HB7 : Hid (Below w.heap.size w w7) := keep HB6.out b7
        clear b7
        go_wp2_with fail
        go_ret
        exact ⟨rfl, HB7.out⟩
      · rw [if_neg h200] at hce
        rw [hce] at VC
        have hg : decide ((200 : Int) < (i : Int)) = false := decide_eq_false (by omega)
        clear hce
        go_wp2_with fail
        refine VC.out.mono ?_; rintro e w6 ⟨rfl, b6⟩
        have HB6 : Hid (Below w.heap.size w w6) := keep HB4.out b6
        clear b6
        go_wp2_with fail
        refine (awake_v w6).mono ?_; rintro e w7 ⟨rfl, b7⟩
        have HB7 : Hid (Below w.heap.size w w7) := keep HB6.out b7
        clear b7
        go_wp2_with fail
        go_ret
        exact ⟨rfl, HB7.out⟩
end Go.Proofs.YtkedgkfdmdlhoaaDoor.P9
