import Derived.Test.YtkodfmpaeemaiaaDoorCls27
/- ClassificationValid for all inputs: Validate of any list and of made ones with at most one fault answers as the reference. -/
namespace Go.Proofs.YtkodfmpaeemaiaaDoor.C6
open Go.RowKit Go.Sort

theorem rawl_size (l : List ByteArray) : ∀ s ∈ rawl l, s.size ≤ 1000 := by
  intro s hs
  obtain ⟨t, _, rfl⟩ := List.mem_map.1 hs
  rw [ByteArray.size_extract]
  omega
theorem rawl_len (l : List ByteArray) : (rawl l).length ≤ 30 := by
  unfold rawl
  rw [List.length_map, List.length_take]
  omega
theorem Bxn.cls {w : World} {g : Nat} {nm : ByteArray} {a : Option Addr} {n c : Nat} (h : Bxn w g nm (.slice a n c)) : Cls w g nm a n c := h

set_option maxHeartbeats 8000000 in
set_option maxRecDepth 100000 in
theorem ClassificationValid_any (nm : ByteArray) (co : Option Addr) (cs : List ByteArray) (cc : Nat) (ao : Option Addr) (ts : List Int) (cap : Nat) (w : World) (hc : RdS w co cc cs) (hcs : ∀ s ∈ cs, s.size ≤ 9223372036854775807) (hr : RdZ w ao cap ts) (hev : ErrV w) :
    Calls Tryd.prog 3 #[.agg #[.string nm, .slice co cs.length cc], .slice ao ts.length cap] w fun e w' => e = .returned (.bool true) ∧ Below w.heap.size w w' := by
  have b1 := below_new w (.cells #[.string nm, .slice co cs.length cc] 24)
  have k1 := Bxn.new w nm (.slice co cs.length cc)
  obtain ⟨W1, hW1⟩ : ∃ W1, W1 = w.alloc (.cells #[.string nm, .slice co cs.length cc] 24) := ⟨_, rfl⟩
  rw [← hW1] at b1 k1
  have hs1 : W1.heap.size = w.heap.size + 1 := by rw [hW1]; simp
  have b2 := below_new W1 (.cells #[.slice ao ts.length cap, .int .i64 0] 29)
  have hT := Tap.new W1 ao ts.length cap
  have k2 := k1.below b2
  obtain ⟨W2, hW2⟩ : ∃ W2, W2 = W1.alloc (.cells #[.slice ao ts.length cap, .int .i64 0] 29) := ⟨_, rfl⟩
  rw [← hW2] at b2 hT k2
  have hs2 : W2.heap.size = w.heap.size + 2 := by rw [hW2, World.size_alloc, hs1]
  have b12 : Below w.heap.size w W2 := keep b1 b2
  have hR2 := hr.below b12
  obtain ⟨G, hG⟩ : ∃ G, G = w.heap.size := ⟨_, rfl⟩
  rw [hs1, ← hG] at hT
  rw [← hG] at k2
  have hSp := spoiled_v (G + 1) ao cap ts 0 W2 hT hR2 (fun h0 b o e => by have := hr.lt h0 b o e; omega) (by omega)
  have HSP := Lib.hid hSp
  have HB12 := Lib.hid b12
  have HC := Lib.hid hc
  have HCS : Hid (∀ s ∈ cs, s.size ≤ 9223372036854775807) := hcs
  have HE := Lib.hid hev
  have HK2 := Lib.hid k2
  have HG : Hid (G = w.heap.size ∧ W2.heap.size = G + 2) := ⟨hG, by omega⟩
  obtain ⟨tn, htn⟩ : ∃ n, n = ts.length := ⟨_, rfl⟩
  obtain ⟨cn, hcn⟩ : ∃ n, n = cs.length := ⟨_, rfl⟩
  have HCN := Lib.hid hcn
  rw [← htn] at HSP hW2 ⊢
  rw [← hcn] at hW1 HK2 ⊢
  obtain ⟨R, hR⟩ : ∃ R, R = rawl cs := ⟨_, rfl⟩
  obtain ⟨rn, hrn⟩ : ∃ n, n = R.length := ⟨_, rfl⟩
  have HRsz : Hid (∀ s ∈ R, s.size ≤ 1000) := by unfold Hid; rw [hR]; exact rawl_size cs
  have HRl : Hid (R.length ≤ 30) := by unfold Hid; rw [hR]; exact rawl_len cs
  have hRaw : ∀ w', RdS w' co cc cs → Calls Tryd.prog 8 #[.agg #[.string nm, .slice co cn cc]] w' fun e w2 => ∃ ao' cap', e = .returned (.agg #[.string nm, .slice ao' rn cap']) ∧ RdS w2 ao' cap' R ∧ Below w'.heap.size w' w2 ∧ (0 < (strs R).length → ∀ b o, ao' = some ⟨b, o, none⟩ → w'.heap.size ≤ b) := fun w' h => by
    rw [hrn, hR, hcn]
    exact raw_v nm co cc cs w' h hcs
  have HRW := Lib.hid hRaw
  have HRN := Lib.hid hrn
  clear hRaw hR hrn
  clear b1 k1 b2 hT k2 b12 hR2 hSp hc hcs hr hev hs1 hs2 htn hcn
  go_enter Tryd.func3, Tryd.ntmps3
  go_wp2_with fail
  rw [← hW1, ← hW2, ← hG]
  clear hW1 hW2 hG
  refine HSP.out.mono ?_; rintro e w3 ⟨l, b, c, rfl, hrow, hl11, hsz, hg3, -⟩
  have hb3 : Below w.heap.size w w3 := HB12.out.grown hg3 HB12.out.size (fun k e => by have := Option.some.inj e; have := HG.out; omega)
  have k3 : Bxn w3 G nm (.slice co cn cc) := HK2.out.grown hg3 (fun e => by have := Option.some.inj e; omega)
  have kd := Bxn.new w3 ⟨#[99]⟩ (.slice (some ⟨b, 0, none⟩) l.length c)
  have b4 := below_new w3 (.cells #[.string ⟨#[99]⟩, .slice (some ⟨b, 0, none⟩) l.length c] 24)
  have k4 := k3.below b4
  have q0 := k4.c0
  have q1 := k4.c1
  have hrow4 := own_below hrow b4
  have hgd : G + 2 ≤ w3.heap.size := by have := hg3.size; have := HG.out; omega
  obtain ⟨W4, hW4⟩ : ∃ W4, W4 = w3.alloc (.cells #[.string ⟨#[99]⟩, .slice (some ⟨b, 0, none⟩) l.length c] 24) := ⟨_, rfl⟩
  rw [← hW4] at k4 kd b4 hrow4
  have hs4 : W4.heap.size = w3.heap.size + 1 := by rw [hW4]; simp
  have hrb := (hrow.lt b rfl)
  have K4 := Lib.hid k4
  have KD := Lib.hid kd
  have HB4 := Lib.hid (keep hb3 b4)
  have HROW := Lib.hid hrow4
  have HSZ : Hid (∀ s ∈ l, s.size ≤ 1000) := hsz
  have HRB : Hid (G + 2 ≤ b ∧ b < w3.heap.size ∧ W4.heap.size = w3.heap.size + 1) := ⟨by have := HG.out; omega, hrb.2, hs4⟩
  clear hrow hg3 hb3 k3 kd b4 k4 hrow4 hrb hsz hs4
  go_wp2_with fail
  rw [← hW4]
  clear hW4 q0 q1
  refine (HRW.out W4 (HC.out.below HB4.out)).mono ?_; rintro e w5 ⟨a5, c5, rfl, hrd5, hbl5, hge5⟩
  have k5 := K4.out.below hbl5
  have f0 := k5.fz 0
  have f1 := k5.fz 1
  have r0 := k5.c0
  have r1 := k5.c1
  have hgl : G < w3.heap.size := by omega
  have kd5 := KD.out.below hbl5
  have k6 := (k5.set0 nm).set (.slice a5 rn c5)
  have kd6 := (kd5.grown (gb_set w5 G 0 (.string nm)) (fun e => by have := Option.some.inj e; omega)).grown (gb_set _ G 1 (.slice a5 rn c5)) (fun e => by have := Option.some.inj e; omega)
  have hne : 0 < (strs R).length → ∀ b o, a5 = some ⟨b, o, none⟩ → b ≠ G := fun h0 b o e => by have := hge5 h0 b o e; have := HRB.out; omega
  have hr6 := (hrd5.gbne hne (gb_set w5 G 0 (.string nm))).gbne hne (gb_set _ G 1 (.slice a5 rn c5))
  have hrow6 := ((own_below HROW.out hbl5).kept (gb_set w5 G 0 (.string nm)) (.inr (fun e => by have h1 : b = G := Option.some.inj e; have := HRB.out; omega))).kept (gb_set _ G 1 (.slice a5 rn c5)) (.inr (fun e => by have h1 : b = G := Option.some.inj e; have := HRB.out; omega))
  have hb5 := keep HB4.out hbl5
  have hb6 := (hb5.setCell (p := ⟨G, 0, none⟩) (by show w.heap.size ≤ G; have := HG.out; omega) (.string nm)).setCell (p := ⟨G, 1, none⟩) (by show w.heap.size ≤ G; have := HG.out; omega) (.slice a5 rn c5)
  obtain ⟨W6, hW6⟩ : ∃ W6, W6 = (w5.setCell ⟨G, 0, none⟩ (.string nm)).setCell ⟨G, 1, none⟩ (.slice a5 rn c5) := ⟨_, rfl⟩
  rw [← hW6] at k6 kd6 hr6 hrow6 hb6
  obtain ⟨al, cl, el, hl6, _⟩ := RdV.of_row hrow6
  rw [strs_length] at el
  obtain ⟨rfl, rfl⟩ : al = some ⟨b, 0, none⟩ ∧ cl = c := by injection el with h1 _ h3; exact ⟨h1.symm, h3.symm⟩
  have K : Hid (∀ w', Below W6.heap.size W6 w' → w'.cell? ⟨G, 0, none⟩ = some (.string nm) ∧ w'.cell? ⟨G, 1, none⟩ = some (.slice a5 rn c5) ∧ w'.cell? ⟨w3.heap.size, 0, none⟩ = some (.string ⟨#[99]⟩) ∧ w'.cell? ⟨w3.heap.size, 1, none⟩ = some (.slice (some ⟨b, 0, none⟩) l.length cl) ∧ Below W6.heap.size W6 w') := fun w' hb =>
    ⟨(k6.below hb).c0, (k6.below hb).c1, (kd6.below hb).c0, (kd6.below hb).c1, hb⟩
  have hE6 : ErrV W6 := HE.out.below hb6
  obtain ⟨vc, hvc⟩ : ∃ v, v = val R := ⟨_, rfl⟩
  obtain ⟨vd, hvd⟩ : ∃ v, v = val l := ⟨_, rfl⟩
  have CVc : Hid (∀ w', Below W6.heap.size W6 w' → Calls Tryd.prog 9 #[.agg #[.string nm, .slice a5 rn c5]] w' fun e w2 => e = .returned (.int .i64 vc) ∧ Below w'.heap.size w' w2) := fun w' hb => by
    rw [hvc, HRN.out]
    exact Validate_v nm a5 c5 R w' (hr6.below hb) (hE6.below hb)
  have CRc : Hid (∀ w', Below W6.heap.size W6 w' → Calls Tryd.prog 10 #[.agg #[.string nm, .slice a5 rn c5]] w' fun e w2 => e = .returned (.int .i64 vc) ∧ Below w'.heap.size w' w2) := fun w' hb => by
    rw [hvc, HRN.out]
    exact rValidate_v nm a5 c5 R w' (hr6.below hb) HRsz.out
  have CVd : Hid (∀ w', Below W6.heap.size W6 w' → Calls Tryd.prog 9 #[.agg #[.string ⟨#[99]⟩, .slice (some ⟨b, 0, none⟩) l.length cl]] w' fun e w2 => e = .returned (.int .i64 vd) ∧ Below w'.heap.size w' w2) := fun w' hb => by
    rw [hvd]
    exact Validate_v _ _ cl l w' (hl6.below hb) (hE6.below hb)
  have CRd : Hid (∀ w', Below W6.heap.size W6 w' → Calls Tryd.prog 10 #[.agg #[.string ⟨#[99]⟩, .slice (some ⟨b, 0, none⟩) l.length cl]] w' fun e w2 => e = .returned (.int .i64 vd) ∧ Below w'.heap.size w' w2) := fun w' hb => by
    rw [hvd]
    exact rValidate_v _ _ cl l w' (hl6.below hb) HSZ.out
  have CA : Hid (∀ w', Below W6.heap.size W6 w' → Calls Tryd.prog 11 #[] w' fun e w2 => e = .returned (.bool true) ∧ Below w'.heap.size w' w2) := fun w' hb => awake_v w' (hE6.below hb)
  have HB6 := Lib.hid hb6
  clear hrd5 hbl5 hge5 k5 kd5 k6 kd6 hne hr6 hrow6 hb5 hb6 el hl6 hE6 hvc hvd
  go_wp2_with fail
  rw [← hW6]
  clear hW6 f0 f1 r0 r1
  go_region_held3 (fun w' => w'.cell? ⟨G, 0, none⟩ = some (.string nm) ∧ w'.cell? ⟨G, 1, none⟩ = some (.slice a5 rn c5) ∧ w'.cell? ⟨w3.heap.size, 0, none⟩ = some (.string ⟨#[99]⟩) ∧ w'.cell? ⟨w3.heap.size, 1, none⟩ = some (.slice (some ⟨b, 0, none⟩) l.length cl) ∧ Below W6.heap.size W6 w')
    (first | exact K.out _ (Below.refl _ _).drew | exact K.out _ (Below.refl _ _) | exact K.out _ (keepB (by assumption) (Nat.le_refl _) v1) | exact K.out _ (keepB (by assumption) (Nat.le_refl _) v2) | exact K.out _ (keepB (by assumption) (Nat.le_refl _) v3) | exact K.out _ (keepB (by assumption) (Nat.le_refl _) v4) | exact K.out _ BV)
    (first
      | (go_at_call_of 9 (Value.slice a5 rn c5); go_split_ands; refine (CVc.out _ (by assumption)).mono ?_; rintro e V1 ⟨rfl, v1⟩)
      | (go_at_call_of 10 (Value.slice a5 rn c5); go_split_ands; refine (CRc.out _ (by assumption)).mono ?_; rintro e V2 ⟨rfl, v2⟩)
      | (go_at_call_of 9 (Value.slice (some ⟨b, 0, none⟩) l.length cl); go_split_ands; refine (CVd.out _ (by assumption)).mono ?_; rintro e V3 ⟨rfl, v3⟩)
      | (go_at_call_of 10 (Value.slice (some ⟨b, 0, none⟩) l.length cl); go_split_ands; refine (CRd.out _ (by assumption)).mono ?_; rintro e V4 ⟨rfl, v4⟩)
      | (go_at_call 11; go_split_ands; refine (CA.out _ (by assumption)).mono ?_; rintro e V5 ⟨rfl, v5⟩; have BV : Below W6.heap.size W6 V5 := keepB (by assumption) (Nat.le_refl _) v5))
  all_goals
    go_wp2_with fail
    go_ret
    exact ⟨rfl, keep HB6.out BV⟩
end Go.Proofs.YtkodfmpaeemaiaaDoor.C6
