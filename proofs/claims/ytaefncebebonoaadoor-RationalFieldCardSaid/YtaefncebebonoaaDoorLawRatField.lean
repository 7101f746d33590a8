import Derived.Test.YtaefncebebonoaaDoorPair3
import Derived.Deep.CutRange
/- RationalField: the walk. -/
namespace Go.Proofs.YtaefncebebonoaaDoor
open Go.RowKit

/-- three structs in boxes, cut or not yet -/
def TriX (g : Nat) (x0 x1 y0 y1 z0 z1 : Array Value) (D : Nat → Bool) (_ : Nat → Value) (w : World) : Prop :=
  w.heap[g]? = some (.cells (bif D 6 then x1 else x0) 25 (0, 0)) ∧ w.heap[g + 1]? = some (.cells (bif D 7 then y1 else y0) 25 (0, 0)) ∧ w.heap[g + 2]? = some (.cells (bif D 8 then z1 else z0) 25 (0, 0))
def TriR (x0 x1 y0 y1 z0 z1 : Value) : Nat → Value → World → Prop
  | 0 => fun v _ => v = x0
  | 1 => fun v _ => v = x1
  | 2 => fun v _ => v = y0
  | 3 => fun v _ => v = y1
  | 4 => fun v _ => v = z0
  | 5 => fun v _ => v = z1
  | _ => fun _ _ => True
theorem TriR.ext {x0 x1 y0 y1 z0 z1 : Value} (i : Nat) (v : Value) (w w' : World) (h : TriR x0 x1 y0 y1 z0 z1 i v w) : TriR x0 x1 y0 y1 z0 z1 i v w' := by
  match i, h with
  | 0, h => exact h
  | 1, h => exact h
  | 2, h => exact h
  | 3, h => exact h
  | 4, h => exact h
  | 5, h => exact h
  | _ + 6, h => exact h
theorem TriX.below {g : Nat} {x0 x1 y0 y1 z0 z1 : Array Value} {D : Nat → Bool} {f f' : Nat → Value} {w w' : World} (h : TriX g x0 x1 y0 y1 z0 z1 D f w) (hb : Below w.heap.size w w') : TriX g x0 x1 y0 y1 z0 z1 D f' w' :=
  ⟨carry h.1 hb, carry h.2.1 hb, carry h.2.2 hb⟩
theorem no_true {D : Nat → Bool} {j : Nat} (h : ¬ D j = true) : D j = false := by cases e : D j <;> simp_all
def ThreeW (g : Nat) (x y z : Array Value) (w W : World) : Prop := Below w.heap.size w W ∧ W.heap[g]? = some (.cells x 25 (0, 0)) ∧ W.heap[g + 1]? = some (.cells y 25 (0, 0)) ∧ W.heap[g + 2]? = some (.cells z 25 (0, 0))

set_option maxHeartbeats 20000000 in
set_option maxRecDepth 100000 in
theorem RationalField_any (s t r : Bool) (ao bo po qo mo lo : Option Addr) (ca cb cl cj ci ch : Nat) (xs ys zs ts gs hs : List Nat) (w : World) (hx : Rd w ao ca xs) (hy : Rd w bo cb ys) (hz : Rd w po cl zs) (ht : Rd w qo cj ts) (hg : Rd w mo ci gs) (hh : Rd w lo ch hs) (htab : Tab w) :
    Calls Tryd.prog 5 #[.agg #[.bool s, .slice ao xs.length ca, .slice bo ys.length cb], .agg #[.bool t, .slice po zs.length cl, .slice qo ts.length cj], .agg #[.bool r, .slice mo gs.length ci, .slice lo hs.length ch]] w fun e w' => e = .returned (.bool true) ∧ Below w.heap.size w w' := by
  obtain ⟨us, hu⟩ : ∃ us, us = xs.take 12 := ⟨_, rfl⟩
  obtain ⟨vs, hv⟩ : ∃ vs, vs = ys.take 12 := ⟨_, rfl⟩
  obtain ⟨us', hu'⟩ : ∃ us', us' = zs.take 12 := ⟨_, rfl⟩
  obtain ⟨vs', hv'⟩ : ∃ vs', vs' = ts.take 12 := ⟨_, rfl⟩
  obtain ⟨us2, hu2⟩ : ∃ us2, us2 = gs.take 12 := ⟨_, rfl⟩
  obtain ⟨vs2, hv2⟩ : ∃ vs2, vs2 = hs.take 12 := ⟨_, rfl⟩
  have RX := cut_rq (s := s) hx hy hu hv
  have RY := cut_rq (s := t) hz ht hu' hv'
  have RZ := cut_rq (s := r) hg hh hu2 hv2
  obtain ⟨n1, hn1⟩ : ∃ n, n = us.length := ⟨_, rfl⟩
  obtain ⟨m1, hm1⟩ : ∃ n, n = vs.length := ⟨_, rfl⟩
  obtain ⟨n2, hn2⟩ : ∃ n, n = us'.length := ⟨_, rfl⟩
  obtain ⟨m2, hm2⟩ : ∃ n, n = vs'.length := ⟨_, rfl⟩
  obtain ⟨n3, hn3⟩ : ∃ n, n = us2.length := ⟨_, rfl⟩
  obtain ⟨m3, hm3⟩ : ∃ n, n = vs2.length := ⟨_, rfl⟩
  have CX : Hid (∀ w', Below w.heap.size w w' → Calls Tryd.prog 10 #[.agg #[.bool s, .slice ao xs.length ca, .slice bo ys.length cb]] w' fun e w'' => e = .returned (.agg #[.bool s, .slice ao n1 ca, .slice bo m1 cb]) ∧ Below w'.heap.size w' w'') := fun w' hb => by rw [hn1, hm1]; exact CutRatio_any s ao bo ca cb xs ys us vs w' (hx.below hb) (hy.below hb) hu hv
  have CY : Hid (∀ w', Below w.heap.size w w' → Calls Tryd.prog 10 #[.agg #[.bool t, .slice po zs.length cl, .slice qo ts.length cj]] w' fun e w'' => e = .returned (.agg #[.bool t, .slice po n2 cl, .slice qo m2 cj]) ∧ Below w'.heap.size w' w'') := fun w' hb => by rw [hn2, hm2]; exact CutRatio_any t po qo cl cj zs ts us' vs' w' (hz.below hb) (ht.below hb) hu' hv'
  have CZ : Hid (∀ w', Below w.heap.size w w' → Calls Tryd.prog 10 #[.agg #[.bool r, .slice mo gs.length ci, .slice lo hs.length ch]] w' fun e w'' => e = .returned (.agg #[.bool r, .slice mo n3 ci, .slice lo m3 ch]) ∧ Below w'.heap.size w' w'') := fun w' hb => by rw [hn3, hm3]; exact CutRatio_any r mo lo ci ch gs hs us2 vs2 w' (hg.below hb) (hh.below hb) hu2 hv2
  rw [← hn1, ← hm1] at RX
  rw [← hn2, ← hm2] at RY
  rw [← hn3, ← hm3] at RZ
  obtain ⟨p, hp⟩ : ∃ p, p = rq s (val us) (dn (val vs)) := ⟨_, rfl⟩
  obtain ⟨q, hq⟩ : ∃ q, q = rq t (val us') (dn (val vs')) := ⟨_, rfl⟩
  obtain ⟨z, hz'⟩ : ∃ z, z = rq r (val us2) (dn (val vs2)) := ⟨_, rfl⟩
  rw [← hp] at RX
  rw [← hq] at RY
  rw [← hz'] at RZ
  obtain ⟨W1, hW1⟩ : ∃ W1, W1 = ((w.alloc (.cells #[.bool s, .slice ao xs.length ca, .slice bo ys.length cb] 25)).alloc (.cells #[.bool t, .slice po zs.length cl, .slice qo ts.length cj] 25)).alloc (.cells #[.bool r, .slice mo gs.length ci, .slice lo hs.length ch] 25) := ⟨_, rfl⟩
  obtain ⟨g, hgs⟩ : ∃ g, g = w.heap.size := ⟨_, rfl⟩
  have hs1 : W1.heap.size = w.heap.size + 3 := by rw [hW1]; simp
  have T0 : ThreeW w.heap.size #[.bool s, .slice ao xs.length ca, .slice bo ys.length cb] #[.bool t, .slice po zs.length cl, .slice qo ts.length cj] #[.bool r, .slice mo gs.length ci, .slice lo hs.length ch] w W1 := by
    rw [hW1]
    refine ⟨((below_new w _).alloc (by simp) _).alloc (by simp; omega) _, ?_, ?_, ?_⟩
    · rw [Below.heap_alloc _ _ _ (by simp; omega), Below.heap_alloc _ _ _ (by simp)]; exact heap_alloc_new w _
    · rw [Below.heap_alloc _ _ _ (by simp)]; have := heap_alloc_new (w.alloc (.cells #[.bool s, .slice ao xs.length ca, .slice bo ys.length cb] 25)) (.cells #[.bool t, .slice po zs.length cl, .slice qo ts.length cj] 25); rwa [World.size_alloc] at this
    · have := heap_alloc_new ((w.alloc (.cells #[.bool s, .slice ao xs.length ca, .slice bo ys.length cb] 25)).alloc (.cells #[.bool t, .slice po zs.length cl, .slice qo ts.length cj] 25)) (.cells #[.bool r, .slice mo gs.length ci, .slice lo hs.length ch] 25); rwa [World.size_alloc, World.size_alloc] at this
  have HT := Lib.hid T0
  clear hx hy hz ht hg hh hu hv hu' hv' hu2 hv2 hn1 hm1 hn2 hm2 hn3 hm3 hp hq hz' hgs hs1 T0
  go_enter Tryd.func5, Tryd.ntmps5
  go_wp2_with fail
  rw [← hW1]
  clear hW1
  go_cut [] from 10 to 106 (fun wx => ThreeW w.heap.size #[.bool s, .slice ao n1 ca, .slice bo m1 cb] #[.bool t, .slice po n2 cl, .slice qo m2 cj] #[.bool r, .slice mo n3 ci, .slice lo m3 ch] w wx)
  case first =>
    refine wp_region_any (by kernel_rfl) ?_
    refine region_ssa [10, 11, 12, 13, 14, 15] (Below w.heap.size w) (Below w.heap.size) (TriR (.agg #[.bool s, .slice ao xs.length ca, .slice bo ys.length cb]) (.agg #[.bool s, .slice ao n1 ca, .slice bo m1 cb]) (.agg #[.bool t, .slice po zs.length cl, .slice qo ts.length cj]) (.agg #[.bool t, .slice po n2 cl, .slice qo m2 cj]) (.agg #[.bool r, .slice mo gs.length ci, .slice lo hs.length ch]) (.agg #[.bool r, .slice mo n3 ci, .slice lo m3 ch])) (TriX w.heap.size #[.bool s, .slice ao xs.length ca, .slice bo ys.length cb] #[.bool s, .slice ao n1 ca, .slice bo m1 cb] #[.bool t, .slice po zs.length cl, .slice qo ts.length cj] #[.bool t, .slice po n2 cl, .slice qo m2 cj] #[.bool r, .slice mo gs.length ci, .slice lo hs.length ch] #[.bool r, .slice mo n3 ci, .slice lo m3 ch]) (fun f => rfl) (by kernel_rfl) (by kernel_rfl) ?_ ?_ ?_ ?_ ⟨⟨⟨⟨⟨⟨⟨⟨⟨trivial, ?_⟩, ?_⟩, ?_⟩, ?_⟩, ?_⟩, ?_⟩, ?_⟩, ?_⟩, ?_⟩ ?_
    · exact HT.out.1.drew
    · intro f; exact HT.out.2
    · intro i v w1 w2 _ h _; exact TriR.ext i v w1 w2 h
    · intro w1 w2 hB hE; exact hB.trans hE
    · intro D f w1 hD hB hR hp hcl hX
      have d6 : D 6 = false := no_true (no_of (D := D) (hcl 6) (by kernel_rfl) hD)
      have hc := hX.1
      rw [d6] at hc
      obtain ⟨c0, c1, c2, _⟩ := at_block hc
      clear hc
      refine wpOp_step rfl (fun K hK => ?_)
      simp only [putAll, Act.put, List.setIfInBounds_toArray, List.set_cons_succ, List.set_cons_zero]
      go_simp
      exact hK _ _ ⟨(.agg #[.bool s, .slice ao xs.length ca, .slice bo ys.length cb]), (by show _ = Act.put _ (some 10) _; simp only [putAll, Act.put, List.setIfInBounds_toArray, List.set_cons_succ, List.set_cons_zero, *]), rfl, Below.refl _ _, hX⟩
    · intro D f w1 hD hB hR hp hcl hX
      have e1 : f 10 = (.agg #[.bool s, .slice ao xs.length ca, .slice bo ys.length cb]) := (hp_at hp 0 (by kernel_rfl)).2
      refine wpOp_step rfl (fun K hK => ?_)
      simp only [putAll, Act.put, List.setIfInBounds_toArray, List.set_cons_succ, List.set_cons_zero]
      go_simp
      refine (CX.out _ hB).mono ?_
      rintro e w2 ⟨rfl, hb⟩
      go_simp
      exact hK _ _ ⟨(.agg #[.bool s, .slice ao n1 ca, .slice bo m1 cb]), (by show _ = Act.put _ (some 11) _; simp only [putAll, Act.put, List.setIfInBounds_toArray, List.set_cons_succ, List.set_cons_zero, *]), rfl, hb.mono hB.size, TriX.below (f := f) hX hb⟩
    · intro D f w1 hD hB hR hp hcl hX
      have d6 : D 7 = false := no_true (no_of (D := D) (hcl 7) (by kernel_rfl) hD)
      have hc := hX.2.1
      rw [d6] at hc
      obtain ⟨c0, c1, c2, _⟩ := at_block hc
      clear hc
      refine wpOp_step rfl (fun K hK => ?_)
      simp only [putAll, Act.put, List.setIfInBounds_toArray, List.set_cons_succ, List.set_cons_zero]
      go_simp
      exact hK _ _ ⟨(.agg #[.bool t, .slice po zs.length cl, .slice qo ts.length cj]), (by show _ = Act.put _ (some 12) _; simp only [putAll, Act.put, List.setIfInBounds_toArray, List.set_cons_succ, List.set_cons_zero, *]), rfl, Below.refl _ _, hX⟩
    · intro D f w1 hD hB hR hp hcl hX
      have e1 : f 12 = (.agg #[.bool t, .slice po zs.length cl, .slice qo ts.length cj]) := (hp_at hp 2 (by kernel_rfl)).2
      refine wpOp_step rfl (fun K hK => ?_)
      simp only [putAll, Act.put, List.setIfInBounds_toArray, List.set_cons_succ, List.set_cons_zero]
      go_simp
      refine (CY.out _ hB).mono ?_
      rintro e w2 ⟨rfl, hb⟩
      go_simp
      exact hK _ _ ⟨(.agg #[.bool t, .slice po n2 cl, .slice qo m2 cj]), (by show _ = Act.put _ (some 13) _; simp only [putAll, Act.put, List.setIfInBounds_toArray, List.set_cons_succ, List.set_cons_zero, *]), rfl, hb.mono hB.size, TriX.below (f := f) hX hb⟩
    · intro D f w1 hD hB hR hp hcl hX
      have d6 : D 8 = false := no_true (no_of (D := D) (hcl 8) (by kernel_rfl) hD)
      have hc := hX.2.2
      rw [d6] at hc
      obtain ⟨c0, c1, c2, _⟩ := at_block hc
      clear hc
      refine wpOp_step rfl (fun K hK => ?_)
      simp only [putAll, Act.put, List.setIfInBounds_toArray, List.set_cons_succ, List.set_cons_zero]
      go_simp
      exact hK _ _ ⟨(.agg #[.bool r, .slice mo gs.length ci, .slice lo hs.length ch]), (by show _ = Act.put _ (some 14) _; simp only [putAll, Act.put, List.setIfInBounds_toArray, List.set_cons_succ, List.set_cons_zero, *]), rfl, Below.refl _ _, hX⟩
    · intro D f w1 hD hB hR hp hcl hX
      have e1 : f 14 = (.agg #[.bool r, .slice mo gs.length ci, .slice lo hs.length ch]) := (hp_at hp 4 (by kernel_rfl)).2
      refine wpOp_step rfl (fun K hK => ?_)
      simp only [putAll, Act.put, List.setIfInBounds_toArray, List.set_cons_succ, List.set_cons_zero]
      go_simp
      refine (CZ.out _ hB).mono ?_
      rintro e w2 ⟨rfl, hb⟩
      go_simp
      exact hK _ _ ⟨(.agg #[.bool r, .slice mo n3 ci, .slice lo m3 ch]), (by show _ = Act.put _ (some 15) _; simp only [putAll, Act.put, List.setIfInBounds_toArray, List.set_cons_succ, List.set_cons_zero, *]), rfl, hb.mono hB.size, TriX.below (f := f) hX hb⟩
    · intro D f w1 hD hB hR hp hcl hX
      have e1 : f 11 = (.agg #[.bool s, .slice ao n1 ca, .slice bo m1 cb]) := (hp_at hp 1 (by kernel_rfl)).2
      have hc := hX.1
      rw [hD] at hc
      obtain ⟨c0, c1, c2, z0, z1, z2⟩ := at_block hc
      refine wpOp_step rfl (fun K hK => ?_)
      simp only [putAll, Act.put, List.setIfInBounds_toArray, List.set_cons_succ, List.set_cons_zero]
      go_simp
      exact hK _ _ ⟨undef, (by show _ = Act.put _ (none) _; simp only [putAll, Act.put, List.setIfInBounds_toArray, List.set_cons_succ, List.set_cons_zero, *]), trivial, below3 (Below.refl _ _) (by omega) _ _ _, set3_at hc _ _ _, (set3_off (by omega) _ _ _).trans hX.2.1, (set3_off (by omega) _ _ _).trans hX.2.2⟩
    · intro D f w1 hD hB hR hp hcl hX
      have e1 : f 13 = (.agg #[.bool t, .slice po n2 cl, .slice qo m2 cj]) := (hp_at hp 3 (by kernel_rfl)).2
      have hc := hX.2.1
      rw [hD] at hc
      obtain ⟨c0, c1, c2, z0, z1, z2⟩ := at_block hc
      refine wpOp_step rfl (fun K hK => ?_)
      simp only [putAll, Act.put, List.setIfInBounds_toArray, List.set_cons_succ, List.set_cons_zero]
      go_simp
      exact hK _ _ ⟨undef, (by show _ = Act.put _ (none) _; simp only [putAll, Act.put, List.setIfInBounds_toArray, List.set_cons_succ, List.set_cons_zero, *]), trivial, below3 (Below.refl _ _) (by omega) _ _ _, (set3_off (by omega) _ _ _).trans hX.1, set3_at hc _ _ _, (set3_off (by omega) _ _ _).trans hX.2.2⟩
    · intro D f w1 hD hB hR hp hcl hX
      have e1 : f 15 = (.agg #[.bool r, .slice mo n3 ci, .slice lo m3 ch]) := (hp_at hp 5 (by kernel_rfl)).2
      have hc := hX.2.2
      rw [hD] at hc
      obtain ⟨c0, c1, c2, z0, z1, z2⟩ := at_block hc
      refine wpOp_step rfl (fun K hK => ?_)
      simp only [putAll, Act.put, List.setIfInBounds_toArray, List.set_cons_succ, List.set_cons_zero]
      go_simp
      exact hK _ _ ⟨undef, (by show _ = Act.put _ (none) _; simp only [putAll, Act.put, List.setIfInBounds_toArray, List.set_cons_succ, List.set_cons_zero, *]), trivial, below3 (Below.refl _ _) (by omega) _ _ _, (set3_off (by omega) _ _ _).trans hX.1, (set3_off (by omega) _ _ _).trans hX.2.1, set3_at hc _ _ _⟩
    · intro D f w1 hall hB hR hX
      simp only [putAll, Act.put, List.setIfInBounds_toArray, List.set_cons_succ, List.set_cons_zero]
      have d6 := hall 6 (by decide)
      have d7 := hall 7 (by decide)
      have d8 := hall 8 (by decide)
      unfold TriX at hX
      rw [d6, d7, d8] at hX
      have HX := Lib.hid hX
      clear d6 d7 d8 hX
      go_wp2_with fail
      go_meet
      exact ⟨hB, HX.out⟩
  case rest =>
    obtain ⟨B1, x4, y4, z4⟩ := hcut
    have K : Hid (∀ w', Below wc.heap.size wc w' → w'.cell? ⟨w.heap.size, 0, none⟩ = some (.bool s) ∧ w'.cell? ⟨w.heap.size, 1, none⟩ = some (.slice ao n1 ca) ∧ w'.cell? ⟨w.heap.size, 2, none⟩ = some (.slice bo m1 cb) ∧ w'.cell? ⟨w.heap.size + 1, 0, none⟩ = some (.bool t) ∧ w'.cell? ⟨w.heap.size + 1, 1, none⟩ = some (.slice po n2 cl) ∧ w'.cell? ⟨w.heap.size + 1, 2, none⟩ = some (.slice qo m2 cj) ∧ w'.cell? ⟨w.heap.size + 2, 0, none⟩ = some (.bool r) ∧ w'.cell? ⟨w.heap.size + 2, 1, none⟩ = some (.slice mo n3 ci) ∧ w'.cell? ⟨w.heap.size + 2, 2, none⟩ = some (.slice lo m3 ch) ∧ Below wc.heap.size wc w') := by
      intro w' hb
      obtain ⟨j0, j1, j2, _⟩ := at_block (carry x4 hb)
      obtain ⟨k0, k1, k2, _⟩ := at_block (carry y4 hb)
      obtain ⟨l0, l1, l2, _⟩ := at_block (carry z4 hb)
      exact ⟨j0, j1, j2, k0, k1, k2, l0, l1, l2, hb⟩
    have KB : Hid (∀ w', Below wc.heap.size wc w' → Below w.heap.size w w') := fun w' hb => B1.trans (hb.mono B1.size)
    have HT4 := Lib.hid (And.intro x4 (And.intro y4 z4))
    have hTab := htab
    clear x4 y4 z4 B1 HT CX CY CZ
    go_wp2_with fail
    dsimp only [List.append]
    go_cut [7] from 10 to 106 (fun v7 wx => v7 = .bool true ∧ Below wc.heap.size wc wx)
    case first =>
      clear HT4 hTab
      go_region_held3 (fun w' => w'.cell? ⟨w.heap.size, 0, none⟩ = some (.bool s) ∧ w'.cell? ⟨w.heap.size, 1, none⟩ = some (.slice ao n1 ca) ∧ w'.cell? ⟨w.heap.size, 2, none⟩ = some (.slice bo m1 cb) ∧ w'.cell? ⟨w.heap.size + 1, 0, none⟩ = some (.bool t) ∧ w'.cell? ⟨w.heap.size + 1, 1, none⟩ = some (.slice po n2 cl) ∧ w'.cell? ⟨w.heap.size + 1, 2, none⟩ = some (.slice qo m2 cj) ∧ w'.cell? ⟨w.heap.size + 2, 0, none⟩ = some (.bool r) ∧ w'.cell? ⟨w.heap.size + 2, 1, none⟩ = some (.slice mo n3 ci) ∧ w'.cell? ⟨w.heap.size + 2, 2, none⟩ = some (.slice lo m3 ch) ∧ Below wc.heap.size wc w')
        (first | exact K.out _ (Below.refl _ _).drew | exact K.out _ (keepB v25 (by assumption) (Nat.le_refl _)) | exact K.out _ (keepB v24 (by assumption) (Nat.le_refl _)) | exact K.out _ (keepB v23 (by assumption) (Nat.le_refl _)) | exact K.out _ (keepB v22 (by assumption) (Nat.le_refl _)) | exact K.out _ (keepB v21 (by assumption) (Nat.le_refl _)) | exact K.out _ (keepB v20 (by assumption) (Nat.le_refl _)) | exact K.out _ (keepB v19 (by assumption) (Nat.le_refl _)) | exact K.out _ (keepB v18 (by assumption) (Nat.le_refl _)) | exact K.out _ (keepB v17 (by assumption) (Nat.le_refl _)) | exact K.out _ (keepB v16 (by assumption) (Nat.le_refl _)) | exact K.out _ (keepB v15 (by assumption) (Nat.le_refl _)) | exact K.out _ (keepB v14 (by assumption) (Nat.le_refl _)) | exact K.out _ (keepB v13 (by assumption) (Nat.le_refl _)) | exact K.out _ (keepB v12 (by assumption) (Nat.le_refl _)) | exact K.out _ (keepB v11 (by assumption) (Nat.le_refl _)) | exact K.out _ (keepB v10 (by assumption) (Nat.le_refl _)) | exact K.out _ (keepB v9 (by assumption) (Nat.le_refl _)) | exact K.out _ (keepB v8 (by assumption) (Nat.le_refl _)) | exact K.out _ (keepB v7 (by assumption) (Nat.le_refl _)) | exact K.out _ (keepB v6 (by assumption) (Nat.le_refl _)) | exact K.out _ (keepB v5 (by assumption) (Nat.le_refl _)) | exact K.out _ (keepB v4 (by assumption) (Nat.le_refl _)) | exact K.out _ (keepB v3 (by assumption) (Nat.le_refl _)) | exact K.out _ (keepB v2 (by assumption) (Nat.le_refl _)) | exact K.out _ (keepB v1 (by assumption) (Nat.le_refl _)))
        (first
          | (go_at_call 13; have tk := v24; go_split_ands; refine (Same_q cr24 (cq_zero 0 _ 1 (by omega) (by omega)) (Rat.add_neg_cancel _)).mono ?_; rintro e V25 ⟨rfl, v25⟩; have BV : Below wc.heap.size wc V25 := keepB v25 (by assumption) (Nat.le_refl _))
          | (go_at_call 11; have tk := v23; go_split_ands; refine (Add_q s s23 ao bo a23 o23 n1 ca m1 cb l23 c23 e23 d23 12 p (-p) _ (RX.below (KB.out _ (by assumption))) cr23.rq (by omega)).mono ?_; rintro e V24 ⟨s24, a24, l24, c24, o24, e24, d24, rfl, cr24, v24⟩)
          | (go_at_call 16; have tk := v22; go_split_ands; refine (Negate_q s ao bo n1 ca m1 cb 12 p _ (RX.below (KB.out _ (by assumption)))).mono ?_; rintro e V23 ⟨s23, a23, l23, c23, o23, e23, d23, rfl, cr23, v23⟩)
          | (go_at_call 13; have tk := v21; go_split_ands; refine (Same_q (((cr18.below v19).below v20).below v21) cr21 (Rat.mul_add _ _ _)).mono ?_; rintro e V22 ⟨rfl, v22⟩)
          | (go_at_call 11; have tk := v20; go_split_ands; refine (Add_q s19 s20 a19 o19 a20 o20 l19 c19 e19 d19 l20 c20 e20 d20 25 (p * q) (p * z) _ (cr19.below v20).rq cr20.rq (by omega)).mono ?_; rintro e V21 ⟨s21, a21, l21, c21, o21, e21, d21, rfl, cr21, v21⟩)
          | (go_at_call 23; have tk := v19; go_split_ands; refine (Mul_q s r ao bo mo lo n1 ca m1 cb n3 ci m3 ch 12 p z _ (RX.below (KB.out _ (by assumption))) (RZ.below (KB.out _ (by assumption))) (by omega)).mono ?_; rintro e V20 ⟨s20, a20, l20, c20, o20, e20, d20, rfl, cr20, v20⟩)
          | (go_at_call 23; have tk := v18; go_split_ands; refine (Mul_q s t ao bo po qo n1 ca m1 cb n2 cl m2 cj 12 p q _ (RX.below (KB.out _ (by assumption))) (RY.below (KB.out _ (by assumption))) (by omega)).mono ?_; rintro e V19 ⟨s19, a19, l19, c19, o19, e19, d19, rfl, cr19, v19⟩)
          | (go_at_call 23; have tk := v17; go_split_ands; refine (Mul_q s s17 ao bo a17 o17 n1 ca m1 cb l17 c17 e17 d17 25 p (q + z) _ ((RX.below (KB.out _ (by assumption))).up (by omega) (by omega) : RQ _ _ _ _ _ _ _ _ _ 25) cr17.rq (by omega)).mono ?_; rintro e V18 ⟨s18, a18, l18, c18, o18, e18, d18, rfl, cr18, v18⟩)
          | (go_at_call 11; have tk := v16; go_split_ands; refine (Add_q t r po qo mo lo n2 cl m2 cj n3 ci m3 ch 12 q z _ (RY.below (KB.out _ (by assumption))) (RZ.below (KB.out _ (by assumption))) (by omega)).mono ?_; rintro e V17 ⟨s17, a17, l17, c17, o17, e17, d17, rfl, cr17, v17⟩)
          | (go_at_call 13; have tk := v15; go_split_ands; refine (Same_q ((cr13.below v14).below v15) cr15 (Rat.mul_assoc _ _ _)).mono ?_; rintro e V16 ⟨rfl, v16⟩)
          | (go_at_call 23; have tk := v14; go_split_ands; refine (Mul_q s s14 ao bo a14 o14 n1 ca m1 cb l14 c14 e14 d14 25 p (q * z) _ ((RX.below (KB.out _ (by assumption))).up (by omega) (by omega) : RQ _ _ _ _ _ _ _ _ _ 25) cr14.rq (by omega)).mono ?_; rintro e V15 ⟨s15, a15, l15, c15, o15, e15, d15, rfl, cr15, v15⟩)
          | (go_at_call 23; have tk := v13; go_split_ands; refine (Mul_q t r po qo mo lo n2 cl m2 cj n3 ci m3 ch 12 q z _ (RY.below (KB.out _ (by assumption))) (RZ.below (KB.out _ (by assumption))) (by omega)).mono ?_; rintro e V14 ⟨s14, a14, l14, c14, o14, e14, d14, rfl, cr14, v14⟩)
          | (go_at_call 23; have tk := v12; go_split_ands; refine (Mul_q s12 r a12 o12 mo lo l12 c12 e12 d12 n3 ci m3 ch 25 (p * q) z _ cr12.rq ((RZ.below (KB.out _ (by assumption))).up (by omega) (by omega) : RQ _ _ _ _ _ _ _ _ _ 25) (by omega)).mono ?_; rintro e V13 ⟨s13, a13, l13, c13, o13, e13, d13, rfl, cr13, v13⟩)
          | (go_at_call 23; have tk := v11; go_split_ands; refine (Mul_q s t ao bo po qo n1 ca m1 cb n2 cl m2 cj 12 p q _ (RX.below (KB.out _ (by assumption))) (RY.below (KB.out _ (by assumption))) (by omega)).mono ?_; rintro e V12 ⟨s12, a12, l12, c12, o12, e12, d12, rfl, cr12, v12⟩)
          | (go_at_call 13; have tk := v10; go_split_ands; refine (Same_q ((cr8.below v9).below v10) cr10 (Rat.add_assoc _ _ _)).mono ?_; rintro e V11 ⟨rfl, v11⟩)
          | (go_at_call 11; have tk := v9; go_split_ands; refine (Add_q s s9 ao bo a9 o9 n1 ca m1 cb l9 c9 e9 d9 25 p (q + z) _ ((RX.below (KB.out _ (by assumption))).up (by omega) (by omega) : RQ _ _ _ _ _ _ _ _ _ 25) cr9.rq (by omega)).mono ?_; rintro e V10 ⟨s10, a10, l10, c10, o10, e10, d10, rfl, cr10, v10⟩)
          | (go_at_call 11; have tk := v8; go_split_ands; refine (Add_q t r po qo mo lo n2 cl m2 cj n3 ci m3 ch 12 q z _ (RY.below (KB.out _ (by assumption))) (RZ.below (KB.out _ (by assumption))) (by omega)).mono ?_; rintro e V9 ⟨s9, a9, l9, c9, o9, e9, d9, rfl, cr9, v9⟩)
          | (go_at_call 11; have tk := v7; go_split_ands; refine (Add_q s7 r a7 o7 mo lo l7 c7 e7 d7 n3 ci m3 ch 25 (p + q) z _ cr7.rq ((RZ.below (KB.out _ (by assumption))).up (by omega) (by omega) : RQ _ _ _ _ _ _ _ _ _ 25) (by omega)).mono ?_; rintro e V8 ⟨s8, a8, l8, c8, o8, e8, d8, rfl, cr8, v8⟩)
          | (go_at_call 11; have tk := v6; go_split_ands; refine (Add_q s t ao bo po qo n1 ca m1 cb n2 cl m2 cj 12 p q _ (RX.below (KB.out _ (by assumption))) (RY.below (KB.out _ (by assumption))) (by omega)).mono ?_; rintro e V7 ⟨s7, a7, l7, c7, o7, e7, d7, rfl, cr7, v7⟩)
          | (go_at_call 13; have tk := v5; go_split_ands; refine (Same_q (cr4.below v5) cr5 (Rat.mul_comm _ _)).mono ?_; rintro e V6 ⟨rfl, v6⟩)
          | (go_at_call 23; have tk := v4; go_split_ands; refine (Mul_q t s po qo ao bo n2 cl m2 cj n1 ca m1 cb 12 q p _ (RY.below (KB.out _ (by assumption))) (RX.below (KB.out _ (by assumption))) (by omega)).mono ?_; rintro e V5 ⟨s5, a5, l5, c5, o5, e5, d5, rfl, cr5, v5⟩)
          | (go_at_call 23; have tk := v3; go_split_ands; refine (Mul_q s t ao bo po qo n1 ca m1 cb n2 cl m2 cj 12 p q _ (RX.below (KB.out _ (by assumption))) (RY.below (KB.out _ (by assumption))) (by omega)).mono ?_; rintro e V4 ⟨s4, a4, l4, c4, o4, e4, d4, rfl, cr4, v4⟩)
          | (go_at_call 13; have tk := v2; go_split_ands; refine (Same_q (cr1.below v2) cr2 (Rat.add_comm _ _)).mono ?_; rintro e V3 ⟨rfl, v3⟩)
          | (go_at_call 11; have tk := v1; go_split_ands; refine (Add_q t s po qo ao bo n2 cl m2 cj n1 ca m1 cb 12 q p _ (RY.below (KB.out _ (by assumption))) (RX.below (KB.out _ (by assumption))) (by omega)).mono ?_; rintro e V2 ⟨s2, a2, l2, c2, o2, e2, d2, rfl, cr2, v2⟩)
          | (go_at_call 11; go_split_ands; refine (Add_q s t ao bo po qo n1 ca m1 cb n2 cl m2 cj 12 p q _ (RX.below (KB.out _ (by assumption))) (RY.below (KB.out _ (by assumption))) (by omega)).mono ?_; rintro e V1 ⟨s1, a1, l1, c1, o1, e1, d1, rfl, cr1, v1⟩))
      go_wp2_with fail
      go_meet
      exact ⟨rfl, BV⟩
    case rest =>
      obtain ⟨rfl, B2⟩ := hcut
      have x4 := carry HT4.out.1 B2
      have y4 := carry HT4.out.2.1 B2
      have z4 := carry HT4.out.2.2 B2
      have B3 := KB.out _ B2
      clear HT4 KB K
      obtain ⟨c0, c1, c2, _⟩ := at_block x4
      obtain ⟨c3, c4, c5, _⟩ := at_block y4
      go_wp2_with fail
      refine (rSign_q t po qo n2 cl m2 cj 12 q _ (RY.below B3)).mono ?_; rintro e W3 ⟨rfl, b3⟩
      have B4 := B3.trans (b3.mono B3.size)
      by_cases hq0 : q = 0
      · rw [sgn_zero_iff.2 hq0]
        clear c0 c1 c2 c3 c4 c5 x4 y4 z4
        go_wp2_with fail
        refine (awake2_any _ (hTab.below B4)).mono ?_; rintro e W4 ⟨rfl, b4⟩
        go_wp2_with fail
        go_ret
        exact ⟨rfl, B4.trans (b4.mono B4.size)⟩
      · obtain ⟨u, hu⟩ : ∃ u, u = sgn q := ⟨_, rfl⟩
        have hne : ((u : Int) != 0) = true := by rw [bne_iff_ne]; intro e; exact hq0 (sgn_zero_iff.1 (hu.symm.trans e))
        have HU := Lib.hid hu
        rw [← hu]
        have HQ := Lib.hid hq0
        have x5 := carry x4 b3
        have y5 := carry y4 b3
        clear hu hq0 c0 c1 c2 c3 c4 c5 x4 y4 z4
        obtain ⟨c0, c1, c2, _⟩ := at_block x5
        obtain ⟨c3, c4, c5, _⟩ := at_block y5
        go_wp2_with fail
        refine (Quo_any s t ao bo po qo n1 ca m1 cb n2 cl m2 cj 12 p q _ (RX.below B4) (RY.below B4) (by omega)).mono ?_; rintro e W7 ⟨s7, a7, n7, c7, o7, m7, d7, er, rfl, cq7, her, b7⟩
        have h0 : er = 0 := by rcases her with ⟨h, _⟩ | ⟨_, h⟩ <;> first | exact absurd h HQ.out | exact h
        subst h0
        have n7x := below_new W7 (.cells #[.bool s7, .slice a7 n7 c7, .slice o7 m7 d7] 25)
        have B7 := (B4.trans (b7.mono B4.size)).trans (n7x.mono (B4.trans (b7.mono B4.size)).size)
        have x7 := carry (carry x5 b7) n7x
        have y7 := carry (carry y5 b7) n7x
        have z7 := heap_alloc_new W7 (.cells #[.bool s7, .slice a7 n7 c7, .slice o7 m7 d7] 25)
        replace cq7 := cq7.below n7x
        obtain ⟨W8, hW8⟩ : ∃ W8, W8 = W7.alloc (.cells #[.bool s7, .slice a7 n7 c7, .slice o7 m7 d7] 25) := ⟨_, rfl⟩
        rw [← hW8] at x7 y7 z7 cq7 B7
        have K : Hid (∀ w', Below W8.heap.size W8 w' → w'.cell? ⟨w.heap.size, 0, none⟩ = some (.bool s) ∧ w'.cell? ⟨w.heap.size, 1, none⟩ = some (.slice ao n1 ca) ∧ w'.cell? ⟨w.heap.size, 2, none⟩ = some (.slice bo m1 cb) ∧ w'.cell? ⟨w.heap.size + 1, 0, none⟩ = some (.bool t) ∧ w'.cell? ⟨w.heap.size + 1, 1, none⟩ = some (.slice po n2 cl) ∧ w'.cell? ⟨w.heap.size + 1, 2, none⟩ = some (.slice qo m2 cj) ∧ w'.cell? ⟨W7.heap.size, 0, none⟩ = some (.bool s7) ∧ w'.cell? ⟨W7.heap.size, 1, none⟩ = some (.slice a7 n7 c7) ∧ w'.cell? ⟨W7.heap.size, 2, none⟩ = some (.slice o7 m7 d7) ∧ Below W8.heap.size W8 w') := by
          intro w' hb
          obtain ⟨j0, j1, j2, _⟩ := at_block (carry x7 hb)
          obtain ⟨k0, k1, k2, _⟩ := at_block (carry y7 hb)
          obtain ⟨l0, l1, l2, _⟩ := at_block (carry z7 hb)
          exact ⟨j0, j1, j2, k0, k1, k2, l0, l1, l2, hb⟩
        have KB : Hid (∀ w', Below W8.heap.size W8 w' → Below w.heap.size w w') := fun w' hb => B7.trans (hb.mono B7.size)
        have K7 : Hid (∀ w', Below W8.heap.size W8 w' → CQ _ w' s7 a7 n7 c7 o7 m7 d7 (p / q) 25) := fun w' hb => cq7.below hb
        clear c0 c1 c2 c3 c4 c5 x5 y5 x7 y7 z7 cq7 B7 n7x b7 her hne B3 B2 b3
        go_wp2_with fail
        rw [← hW8]
        clear hW8
        go_region_held3 (fun w' => w'.cell? ⟨w.heap.size, 0, none⟩ = some (.bool s) ∧ w'.cell? ⟨w.heap.size, 1, none⟩ = some (.slice ao n1 ca) ∧ w'.cell? ⟨w.heap.size, 2, none⟩ = some (.slice bo m1 cb) ∧ w'.cell? ⟨w.heap.size + 1, 0, none⟩ = some (.bool t) ∧ w'.cell? ⟨w.heap.size + 1, 1, none⟩ = some (.slice po n2 cl) ∧ w'.cell? ⟨w.heap.size + 1, 2, none⟩ = some (.slice qo m2 cj) ∧ w'.cell? ⟨W7.heap.size, 0, none⟩ = some (.bool s7) ∧ w'.cell? ⟨W7.heap.size, 1, none⟩ = some (.slice a7 n7 c7) ∧ w'.cell? ⟨W7.heap.size, 2, none⟩ = some (.slice o7 m7 d7) ∧ Below W8.heap.size W8 w')
          (first | exact K.out _ (Below.refl _ _).drew | exact K.out _ (keepB v1 (by assumption) (Nat.le_refl _)) | exact K.out _ (keepB v2 (by assumption) (Nat.le_refl _)) | exact K.out _ (keepB v3 (by assumption) (Nat.le_refl _)))
          (first
            | (go_at_call 23; go_split_ands; refine (Mul_q s7 t a7 o7 po qo n7 c7 m7 d7 n2 cl m2 cj 25 (p / q) q _ (K7.out _ (by assumption)).rq ((RY.below (KB.out _ (by assumption))).up (by omega) (by omega)) (by omega)).mono ?_; rintro e V1 ⟨s1, a1, l1, c1, o1, e1, d1, rfl, cr1, v1⟩)
            | (go_at_call 26; go_split_ands; refine (rNormalize_q s ao bo n1 ca m1 cb 12 p _ (RX.below (KB.out _ (by assumption)))).mono ?_; rintro e V2 ⟨s2, a2, l2, c2, o2, e2, d2, rfl, cr2, v2⟩)
            | (go_at_call 13; go_split_ands; refine (Same_q (cr1.below v2) cr2 (Rat.div_mul_cancel HQ.out)).mono ?_; rintro e V3 ⟨rfl, v3⟩; have BV : Below W8.heap.size W8 V3 := keepB v3 (by assumption) (Nat.le_refl _)))
        have B9 := KB.out _ BV
        have tb := hTab.below B9
        clear cr1 cr2 v1 v2 v3
        go_wp2_with fail
        refine (awake2_any _ tb).mono ?_; rintro e W4 ⟨rfl, b4⟩
        go_wp2_with fail
        go_ret
        exact ⟨rfl, B9.trans (b4.mono B9.size)⟩
end Go.Proofs.YtaefncebebonoaaDoor
