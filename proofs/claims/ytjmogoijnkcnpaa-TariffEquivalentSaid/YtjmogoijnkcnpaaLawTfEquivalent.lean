import Derived.Test.YtjmogoijnkcnpaaTfX0
import Derived.Test.YtjmogoijnkcnpaaTfQ0
import Derived.Deep.RegionLaw
/- TariffEquivalent for all inputs: Equivalent of the code against the reference's. -/
namespace Go.Proofs.Ytjmogoijnkcnpaa.T14
open Go.RowKit Go.Sort C6

theorem TB.equiv {w : World} {g g' : Nat} {st su : Int} {a a' : Option Addr} {n c n' c' : Nat} {bs cs : List (Int × Int)} (h : TB w g st a n c bs) (k : TB w g' su a' n' c' cs) : Calls Try.prog 33 #[.agg #[.int .i64 st, .slice a n c], .agg #[.int .i64 su, .slice a' n' c']] w (Says (EqP st bs su cs) w) := by
  have := Equivalent_v st a c bs su a' c' cs w h.rd k.rd (by have := h.max; have := h.len; omega) (by have := k.max; have := k.len; omega)
  rwa [h.len, k.len] at this
theorem TB.requiv {w : World} {g g' : Nat} {st su : Int} {a a' : Option Addr} {n c n' c' : Nat} {bs cs : List (Int × Int)} (h : TB w g st a n c bs) (k : TB w g' su a' n' c' cs) : Calls Try.prog 34 #[.agg #[.int .i64 st, .slice a n c], .agg #[.int .i64 su, .slice a' n' c']] w (Says (EqP st bs su cs) w) := by
  have := rEquivalent_v st a c bs su a' c' cs w h.rd k.rd (by have := h.max; have := h.len; omega) (by have := k.max; have := k.len; omega)
  rwa [h.len, k.len] at this

def RwN (st : Int) (bs : List (Int × Int)) (n : Nat) (w : World) (e : Ending) (w' : World) : Prop :=
  ∃ (a : Option Addr) (c : Nat), e = .returned (.agg #[.int .i64 st, .slice a n c]) ∧ w'.ownsRow w.heap.size 61 2 (.slice a n c) n (bkv bs) ∧ Below w.heap.size w w'
theorem bool_both {a b : Bool} {p : Prop} (h1 : a = true ↔ p) (h2 : b = true ↔ p) : b = a := by
  cases a <;> cases b <;> simp_all

set_option maxHeartbeats 16000000 in
set_option maxRecDepth 100000 in
theorem TariffEquivalent_any (sx : Int) (ax : Option Addr) (cx : Nat) (bx : List (Int × Int)) (sy : Int) (ay : Option Addr) (cy : Nat) (bY : List (Int × Int)) (ao1 : Option Addr) (ts : List Int) (cap1 : Nat) (w : World) (hx : RdK w ax cx bx) (hy : RdK w ay cy bY) (ht : RdZ w ao1 cap1 ts) :
    Calls Try.prog 8 #[.agg #[.int .i64 sx, .slice ax bx.length cx], .agg #[.int .i64 sy, .slice ay bY.length cy], .slice ao1 ts.length cap1] w fun e w' => e = .returned (.bool true) ∧ Below w.heap.size w w' := by
  obtain ⟨nx, hnx⟩ : ∃ n, n = bx.length := ⟨_, rfl⟩
  obtain ⟨ny, hny⟩ : ∃ n, n = bY.length := ⟨_, rfl⟩
  obtain ⟨tn, htn⟩ : ∃ n, n = ts.length := ⟨_, rfl⟩
  obtain ⟨W1, hW1⟩ : ∃ W, W = w.alloc (.cells #[.int .i64 sx, .slice ax nx cx] 24) := ⟨_, rfl⟩
  obtain ⟨W2, hW2⟩ : ∃ W, W = W1.alloc (.cells #[.int .i64 sy, .slice ay ny cy] 24) := ⟨_, rfl⟩
  obtain ⟨W3, hW3⟩ : ∃ W, W = W2.alloc (.cells #[.slice ao1 tn cap1, .int .i64 0] 29) := ⟨_, rfl⟩
  obtain ⟨g0, hg0⟩ : ∃ g, g = w.heap.size := ⟨_, rfl⟩
  have s1 : W1.heap.size = g0 + 1 := by rw [hW1, hg0]; simp
  have s2 : W2.heap.size = g0 + 1 + 1 := by rw [hW2]; simp [s1]
  have s3 : W3.heap.size = g0 + 1 + 1 + 1 := by rw [hW3]; simp [s2]
  have b1 : Below w.heap.size w W1 := by rw [hW1]; exact below_new w _
  have b2 : Below W1.heap.size W1 W2 := by rw [hW2]; exact below_new W1 _
  have b3 : Below W2.heap.size W2 W3 := by rw [hW3]; exact below_new W2 _
  have x1 : TfBox W1 g0 sx ax nx cx := by rw [hW1, hg0]; exact TfBox.new w _ _ _ _
  have x3 : TfBox W3 g0 sx ax nx cx := carry (carry x1 b2) b3
  have y2 : TfBox W2 (g0 + 1) sy ay ny cy := by rw [hW2, ← s1]; exact TfBox.new W1 _ _ _ _
  have y3 : TfBox W3 (g0 + 1) sy ay ny cy := carry y2 b3
  have t3 : Tap W3 (g0 + 1 + 1) ao1 ts.length cap1 0 := by rw [hW3, ← s2, ← htn]; exact Tap.new W2 _ _ _
  have B3 : Below w.heap.size w W3 := (b1.trans (b2.mono b1.size)).trans (b3.mono (by omega))
  have rx : RdK W3 ax cx bx := hx.below B3
  have ry : RdK W3 ay cy bY := hy.below B3
  have z3 : RdZ W3 ao1 cap1 ts := ht.below B3
  have TF : Hid (Calls Try.prog 21 #[.pointer (some ⟨g0 + 1 + 1, 0, none⟩)] W3 (TfPost W3 (g0 + 1 + 1) ao1 tn cap1 0)) := by
    rw [htn]
    exact Tariff_v (g0 + 1 + 1) ao1 cap1 ts 0 W3 t3 z3 (fun h0 b o e => by have := rdz_lt ht h0 b o e; omega) (by omega)
  have SPO : Hid (∀ w1 j, W3.grownBy w1 (some (g0 + 1 + 1)) → Tap w1 (g0 + 1 + 1) ao1 tn cap1 j → j ≤ 1000 → Calls Try.prog 10 #[.pointer (some ⟨g0 + 1 + 1, 0, none⟩)] w1 (SpPost w1 (g0 + 1 + 1) ao1 tn cap1 j)) := by
    intro w1 j h1 h2 h3
    rw [htn] at h2 ⊢
    refine spoiled_v (g0 + 1 + 1) ao1 cap1 ts j w1 h2 ?_ (fun h0 b o e => by have h8 := rdz_lt ht h0 b o e; have h9 := h1.size; omega) h3
    refine ⟨z3.1, z3.2.1, ?_⟩
    rcases z3.2.2 with hn | ⟨b, o, e, hc⟩
    · exact .inl hn
    · refine .inr ⟨b, o, e, fun i v hi => ?_⟩
      have hl : 0 < ts.length := by
        have := (List.getElem?_eq_some_iff.1 hi).1
        rw [intz_length] at this
        omega
      exact h1.cell (hc i v hi) (fun q => by have h8 := rdz_lt ht hl b o e; have h9 : b = g0 + 1 + 1 := Option.some.inj q; omega)
  have HB3 := Lib.hid B3
  have X3 := Lib.hid x3
  have Y3 := Lib.hid y3
  have S3 := Lib.hid s3
  have RX := Lib.hid rx
  have RY := Lib.hid ry
  have LX : Hid (offB ax bx (fun b => b < g0)) := fun h0 b o e => by have := hx.lt h0 b o e; omega
  have LY : Hid (offB ay bY (fun b => b < g0)) := fun h0 b o e => by have := hy.lt h0 b o e; omega
  have HNX := Lib.hid hnx
  have HNY := Lib.hid hny
  have HG0 := Lib.hid hg0
  have HU : Hid (W3 = ((w.alloc (.cells #[.int .i64 sx, .slice ax nx cx] 24)).alloc (.cells #[.int .i64 sy, .slice ay ny cy] 24)).alloc (.cells #[.slice ao1 tn cap1, .int .i64 0] 29)) := by unfold Hid; rw [hW3, hW2, hW1]
  rw [← hnx, ← hny, ← htn]
  clear hnx hny htn hx hy ht s1 s2 s3 b1 b2 b3 x1 x3 y2 y3 t3 B3 rx ry z3 hW1 hW2 hW3 hg0
  go_enter Try.func8, Try.ntmps8
  go_wp2_with fail
  rw [← HU.out]
  try rw [← HG0.out]
  clear HU
  refine (TF.out).mono ?_
  rintro e w4 ⟨sp, b, cp, bp, j4, rfl, own4, hsp0, hsp1, hok, hsm, g4, hj4, t4⟩
  go_wp2_with fail
  refine (SPO.out w4 j4 g4 t4 (by omega)).mono ?_
  rintro e w5 ⟨sq, aq, cq, bq, j5, rfl, own5, hlq, g5, -, -⟩
  obtain ⟨np, hnp⟩ : ∃ n, n = bp.length := ⟨_, rfl⟩
  obtain ⟨nq, hnq⟩ : ∃ n, n = bq.length := ⟨_, rfl⟩
  rw [← hnp] at own4 ⊢
  rw [← hnq] at own5 hlq ⊢
  obtain ⟨rp4, -, op4⟩ := rd_of_own own4
  obtain ⟨rq5, -, oq5⟩ := rd_of_own own5
  obtain ⟨gp, hgp⟩ : ∃ g, g = w5.heap.size := ⟨_, rfl⟩
  obtain ⟨W6, hW6⟩ : ∃ W, W = w5.alloc (.cells #[.int .i64 sp, .slice (some ⟨b, 0, none⟩) np cp] 24) := ⟨_, rfl⟩
  obtain ⟨W7, hW7⟩ : ∃ W, W = W6.alloc (.cells #[.int .i64 sq, .slice aq nq cq] 24) := ⟨_, rfl⟩
  have s6 : W6.heap.size = gp + 1 := by rw [hW6, hgp]; simp
  have b6 : Below w5.heap.size w5 W6 := by rw [hW6]; exact below_new w5 _
  have b7 : Below W6.heap.size W6 W7 := by rw [hW7]; exact below_new W6 _
  have b57 : Below w5.heap.size w5 W7 := b6.trans (b7.mono b6.size)
  have g35 : W3.grownBy w5 (some (g0 + 1 + 1)) := gb_trans g4 g5
  have hgp0 : g0 + 1 + 1 < gp := by have := g35.size; have := S3.out; omega
  have x5 : TfBox w5 g0 sx ax nx cx := X3.out.grown g35 (fun e => by have := Option.some.inj e; omega)
  have y5 : TfBox w5 (g0 + 1) sy ay ny cy := Y3.out.grown g35 (fun e => by have := Option.some.inj e; omega)
  have HX7 : Hid (TfBox W7 g0 sx ax nx cx) := x5.below b57 x5.lt
  have HY7 : Hid (TfBox W7 (g0 + 1) sy ay ny cy) := y5.below b57 y5.lt
  have p6 : TfBox W6 gp sp (some ⟨b, 0, none⟩) np cp := by rw [hW6, hgp]; exact TfBox.new w5 _ _ _ _
  have p7 : TfBox W7 gp sp (some ⟨b, 0, none⟩) np cp := p6.below b7 p6.lt
  have q7 : TfBox W7 (gp + 1) sq aq nq cq := by rw [hW7, ← s6]; exact TfBox.new W6 _ _ _ _
  have rp5 : RdK w5 (some ⟨b, 0, none⟩) cp bp := rp4.gbne (fun h0 b' o e => by have := op4 h0 b' o e; have := S3.out; omega) g5
  have HP7 : Hid (TB W7 gp sp (some ⟨b, 0, none⟩) np cp bp) := ⟨p7, rp5.below b57, hnp.symm, by have := hsm.1; omega⟩
  have HQ7 : Hid (TB W7 (gp + 1) sq aq nq cq bq) := ⟨q7, rq5.below b57, hnq.symm, hlq⟩
  have B5 : Below w.heap.size w w5 := HB3.out.grown g35 HB3.out.size (fun r e => by have := Option.some.inj e; have := HG0.out; omega)
  have B7 : Hid (Below w.heap.size w W7) := B5.trans (b57.mono B5.size)
  have RX7 : RdK W7 ax cx bx := (RX.out.gbne (fun h0 b o e => by have := LX.out h0 b o e; omega) g35).below b57
  have RY7 : RdK W7 ay cy bY := (RY.out.gbne (fun h0 b o e => by have := LY.out h0 b o e; omega) g35).below b57
  obtain ⟨mX, hmX⟩ : ∃ n, n = (bx.take 10).length := ⟨_, rfl⟩
  have HLX : Hid ((bx.take 10).length = mX ∧ mX ≤ 10) := ⟨hmX.symm, by rw [hmX, List.length_take]; omega⟩
  obtain ⟨TX, hTX⟩ : ∃ l, l = bx.take 10 := ⟨_, rfl⟩
  have RWX : Hid (∀ w', Below W7.heap.size W7 w' → Calls Try.prog 11 #[.agg #[.int .i64 sx, .slice ax nx cx]] w' (RwN sx TX mX w')) := fun w' hb => by
    have := raw_v sx ax cx bx w' (RX7.below hb)
    rw [← HNX.out] at this
    unfold RwPost at this
    rw [← hmX, ← hTX] at this
    exact this
  rw [← hTX] at HLX
  clear hmX hTX
  obtain ⟨mY, hmY⟩ : ∃ n, n = (bY.take 10).length := ⟨_, rfl⟩
  have HLY : Hid ((bY.take 10).length = mY ∧ mY ≤ 10) := ⟨hmY.symm, by rw [hmY, List.length_take]; omega⟩
  obtain ⟨TY, hTY⟩ : ∃ l, l = bY.take 10 := ⟨_, rfl⟩
  have RWY : Hid (∀ w', Below W7.heap.size W7 w' → Calls Try.prog 11 #[.agg #[.int .i64 sy, .slice ay ny cy]] w' (RwN sy TY mY w')) := fun w' hb => by
    have := raw_v sy ay cy bY w' (RY7.below hb)
    rw [← HNY.out] at this
    unfold RwPost at this
    rw [← hmY, ← hTY] at this
    exact this
  rw [← hTY] at HLY
  clear hmY hTY
  have HOP : Hid (offB (some ⟨b, 0, none⟩) bp (fun b => g0 + 1 + 1 < b)) := fun h0 b' o e => by have := op4 h0 b' o e; have := S3.out; show g0 + 1 + 1 < b'; omega
  have HOQ : Hid (offB aq bq (fun b => g0 + 1 + 1 < b)) := fun h0 b' o e => by have := oq5 h0 b' o e; have := g4.size; have := S3.out; show g0 + 1 + 1 < b'; omega
  have HGP := Lib.hid hgp0
  have HV : Hid (W7 = (w5.alloc (.cells #[.int .i64 sp, .slice (some ⟨b, 0, none⟩) np cp] 24)).alloc (.cells #[.int .i64 sq, .slice aq nq cq] 24)) := by unfold Hid; rw [hW7, hW6]
  have HVG := Lib.hid hgp
  have HTP : Hid (EqP sp bp sp bp) := by
    have e := tE_zero (by assumption) (by omega) hok
    exact ⟨e, e, rfl, rfl⟩
  clear hsp0 hsp1 own4 own5 hnp hnq hlq hok hsm g4 g5 hj4 t4 rp4 op4 rq5 oq5 s6 b6 b7 b57 g35 hgp0 x5 y5 p6 p7 q7 rp5 B5 RX7 RY7 hgp hW6 hW7 TF SPO HB3 X3 Y3 S3 RX RY LX LY
  go_upto_region 3 with fail
  rw [← HV.out]
  try rw [← HVG.out]
  clear HV HVG
  obtain ⟨k0, k1⟩ := HX7.out.cells
  obtain ⟨j0, j1⟩ := HY7.out.cells
  go_region_law (go_simp; (first
    | (go_at_call_of 11 (Value.slice ax nx cx); refine (RWX.out _ (Below.refl _ _).drew).mono ?_; rintro e w8 ⟨a8, c8, rfl, own8, b8⟩; have HB8 : Hid (Below W7.heap.size W7 w8) := keepB b8 (Below.refl _ _).drew (Nat.le_refl _); obtain ⟨m0, m1⟩ := (HY7.out.below HB8.out HY7.out.lt).cells; replace own8 := Lib.hid own8; clear b8)
    | (go_at_call_of 11 (Value.slice ay ny cy); refine (RWY.out _ HB8.out).mono ?_; rintro e w9 ⟨a9, c9, rfl, own9, b9⟩; have HB9 : Hid (Below W7.heap.size W7 w9) := keepB b9 HB8.out (Nat.le_refl _); have HX9 : Hid (TfBox w9 g0 sx ax nx cx) := HX7.out.below HB9.out HX7.out.lt; have HY9 : Hid (TfBox w9 (g0 + 1) sy ay ny cy) := HY7.out.below HB9.out HY7.out.lt; obtain ⟨p0, p1⟩ := HX9.out.cells; obtain ⟨q0, q1⟩ := HY9.out.cells; have pf0 := HX9.out.fz 0; have pf1 := HX9.out.fz 1; have qf0 := HY9.out.fz 0; have qf1 := HY9.out.fz 1; replace own8 := Lib.hid (own_below own8.out b9); replace own9 := Lib.hid own9; clear b9)))
  all_goals
    obtain ⟨r8, -, o8⟩ := rd_of_own own8.out
    obtain ⟨r9, -, o9⟩ := rd_of_own own9.out
    obtain ⟨Wm, hWm⟩ : ∃ W, W = (w9.setCell ⟨g0, 0, none⟩ (.int .i64 sx)).setCell ⟨g0, 1, none⟩ (.slice a8 mX c8) := ⟨_, rfl⟩
    obtain ⟨W10, hW10⟩ : ∃ W, W = (Wm.setCell ⟨g0 + 1, 0, none⟩ (.int .i64 sy)).setCell ⟨g0 + 1, 1, none⟩ (.slice a9 mY c9) := ⟨_, rfl⟩
    have gm : w9.grownBy Wm (some g0) := by rw [hWm]; exact gb_trans (gb_set w9 g0 0 _) (gb_set _ g0 1 _)
    have gn : Wm.grownBy W10 (some (g0 + 1)) := by rw [hW10]; exact gb_trans (gb_set Wm (g0 + 1) 0 _) (gb_set _ (g0 + 1) 1 _)
    have hg7 : g0 + 1 < W7.heap.size := HY7.out.lt
    have h8s : W7.heap.size ≤ w8.heap.size := HB8.out.size
    have n8 : ∀ g, g ≤ g0 + 1 → offB a8 TX (fun b => some b ≠ some g) := fun g hg h0 b o e e2 => by have h1 : W7.heap.size ≤ b := o8 h0 b o e; have := Option.some.inj e2; omega
    have n9 : ∀ g, g ≤ g0 + 1 → offB a9 TY (fun b => some b ≠ some g) := fun g hg h0 b o e e2 => by have h1 : w8.heap.size ≤ b := o9 h0 b o e; have := Option.some.inj e2; omega
    have np' : ∀ g, g ≤ g0 + 1 → offB (some ⟨b, 0, none⟩) bp (fun b => some b ≠ some g) := fun g hg h0 b o e e2 => by have h1 : g0 + 1 + 1 < b := HOP.out h0 b o e; have := Option.some.inj e2; omega
    have nq' : ∀ g, g ≤ g0 + 1 → offB aq bq (fun b => some b ≠ some g) := fun g hg h0 b o e e2 => by have h1 : g0 + 1 + 1 < b := HOQ.out h0 b o e; have := Option.some.inj e2; omega
    have hgp := HGP.out
    have nn : ∀ {x y : Nat}, x ≠ y → some x ≠ some y := fun h e => h (Option.some.inj e)
    have xm : TfBox Wm g0 sx a8 mX c8 := by rw [hWm]; exact HX9.out.put2 _ _ _ _
    have ym : TfBox Wm (g0 + 1) sy ay ny cy := HY9.out.grown gm (nn (by omega))
    have y10 : TfBox W10 (g0 + 1) sy a9 mY c9 := by rw [hW10]; exact ym.put2 _ _ _ _
    have KX : Hid (TB W10 g0 sx a8 mX c8 TX) := ⟨xm.grown gn (nn (by omega)), (r8.grown (n8 g0 (by omega)) gm).grown (n8 (g0 + 1) (by omega)) gn, HLX.out.1, HLX.out.2⟩
    have KY : Hid (TB W10 (g0 + 1) sy a9 mY c9 TY) := ⟨y10, (r9.grown (n9 g0 (by omega)) gm).grown (n9 (g0 + 1) (by omega)) gn, HLY.out.1, HLY.out.2⟩
    have KP : Hid (TB W10 gp sp (some ⟨b, 0, none⟩) np cp bp) := ((HP7.out.below HB9.out).grown gm (nn (by omega)) (np' g0 (by omega))).grown gn (nn (by omega)) (np' (g0 + 1) (by omega))
    have KQ : Hid (TB W10 (gp + 1) sq aq nq cq bq) := ((HQ7.out.below HB9.out).grown gm (nn (by omega)) (nq' g0 (by omega))).grown gn (nn (by omega)) (nq' (g0 + 1) (by omega))
    have hgw : w.heap.size = g0 := HG0.out.symm
    have b9 : Below w.heap.size w w9 := B7.out.trans (HB9.out.mono B7.out.size)
    have bm : Below w.heap.size w Wm := b9.grown gm b9.size (fun r e => by have := Option.some.inj e; omega)
    have B10 : Hid (Below w.heap.size w W10) := bm.grown gn bm.size (fun r e => by have := Option.some.inj e; omega)
    rw [← hWm, ← hW10]
    obtain ⟨PX, hPX⟩ : ∃ p, p = EqP sx TX sy TY := ⟨_, rfl⟩
    obtain ⟨PQ, hPQ⟩ : ∃ p, p = EqP sp bp sq bq := ⟨_, rfl⟩
    obtain ⟨PP, hPP⟩ : ∃ p, p = EqP sp bp sp bp := ⟨_, rfl⟩
    have hpp : PP := by rw [hPP]; exact HTP.out
    have HPP := Lib.hid hpp
    have EX : Hid (∀ w', Below W10.heap.size W10 w' → Calls Try.prog 33 #[.agg #[.int .i64 sx, .slice a8 mX c8], .agg #[.int .i64 sy, .slice a9 mY c9]] w' (Says PX w')) := fun w' hb => by rw [hPX]; exact (KX.out.below hb).equiv (KY.out.below hb)
    have RE : Hid (∀ w', Below W10.heap.size W10 w' → Calls Try.prog 34 #[.agg #[.int .i64 sx, .slice a8 mX c8], .agg #[.int .i64 sy, .slice a9 mY c9]] w' (Says PX w')) := fun w' hb => by rw [hPX]; exact (KX.out.below hb).requiv (KY.out.below hb)
    have EP : Hid (∀ w', Below W10.heap.size W10 w' → Calls Try.prog 33 #[.agg #[.int .i64 sp, .slice (some ⟨b, 0, none⟩) np cp], .agg #[.int .i64 sq, .slice aq nq cq]] w' (Says PQ w')) := fun w' hb => by rw [hPQ]; exact (KP.out.below hb).equiv (KQ.out.below hb)
    have RP : Hid (∀ w', Below W10.heap.size W10 w' → Calls Try.prog 34 #[.agg #[.int .i64 sp, .slice (some ⟨b, 0, none⟩) np cp], .agg #[.int .i64 sq, .slice aq nq cq]] w' (Says PQ w')) := fun w' hb => by rw [hPQ]; exact (KP.out.below hb).requiv (KQ.out.below hb)
    have EE : Hid (∀ w', Below W10.heap.size W10 w' → Calls Try.prog 33 #[.agg #[.int .i64 sp, .slice (some ⟨b, 0, none⟩) np cp], .agg #[.int .i64 sp, .slice (some ⟨b, 0, none⟩) np cp]] w' (Says PP w')) := fun w' hb => by rw [hPP]; exact (KP.out.below hb).equiv (KP.out.below hb)
    clear hPX hPQ hPP hpp r8 r9 o8 o9 hWm hW10 gm gn hg7 h8s n8 n9 np' nq' hgp xm ym y10 hgw b9 bm own8 own9 HX9 HY9 HB8 HB9 p0 p1 q0 q1 pf0 pf1 qf0 qf1 k0 k1 j0 j1 HTP HOP HOQ RWX RWY HX7 HY7 HP7 HQ7 B7 nn
    try clear m0 m1
    go_wp2_with fail
    refine wp_region_held_drew (S := fun w' => Below W10.heap.size W10 w') (by kernel_rfl) ((Below.refl _ _).drew) (fun hH => ?_)
    refine wpAnyH_take (i := 0) (v := (.agg #[.int .i64 sx, .slice a8 mX c8])) rfl (by kernel_rfl) (by kernel_rfl) (by kernel_rfl) (fun _ _ _ h => h) (Or.inl ⟨by kernel_rfl, ?_⟩) hH ?_
    · intro w1 hB
      obtain ⟨x0, x1⟩ := (KX.out.below hB).box.cells
      obtain ⟨y0, y1⟩ := (KY.out.below hB).box.cells
      obtain ⟨p0, p1⟩ := (KP.out.below hB).box.cells
      obtain ⟨q0, q1⟩ := (KQ.out.below hB).box.cells
      go_simp
    change wpAnyH _ _ _ _ _ _ _ (Act.put _ (some 21) _) _
    try simp only [Act.put, List.setIfInBounds_toArray, List.set_cons_zero, List.set_cons_succ]
    refine wpAnyH_take (i := 1) (v := (.agg #[.int .i64 sy, .slice a9 mY c9])) rfl (by kernel_rfl) (by kernel_rfl) (by kernel_rfl) (fun _ _ _ h => h) (Or.inl ⟨by kernel_rfl, ?_⟩) hH ?_
    · intro w1 hB
      obtain ⟨x0, x1⟩ := (KX.out.below hB).box.cells
      obtain ⟨y0, y1⟩ := (KY.out.below hB).box.cells
      obtain ⟨p0, p1⟩ := (KP.out.below hB).box.cells
      obtain ⟨q0, q1⟩ := (KQ.out.below hB).box.cells
      go_simp
    change wpAnyH _ _ _ _ _ _ _ (Act.put _ (some 22) _) _
    try simp only [Act.put, List.setIfInBounds_toArray, List.set_cons_zero, List.set_cons_succ]
    refine wpAnyH_take (i := 3) (v := (.agg #[.int .i64 sx, .slice a8 mX c8])) rfl (by kernel_rfl) (by kernel_rfl) (by kernel_rfl) (fun _ _ _ h => h) (Or.inl ⟨by kernel_rfl, ?_⟩) hH ?_
    · intro w1 hB
      obtain ⟨x0, x1⟩ := (KX.out.below hB).box.cells
      obtain ⟨y0, y1⟩ := (KY.out.below hB).box.cells
      obtain ⟨p0, p1⟩ := (KP.out.below hB).box.cells
      obtain ⟨q0, q1⟩ := (KQ.out.below hB).box.cells
      go_simp
    change wpAnyH _ _ _ _ _ _ _ (Act.put _ (some 24) _) _
    try simp only [Act.put, List.setIfInBounds_toArray, List.set_cons_zero, List.set_cons_succ]
    refine wpAnyH_take (i := 4) (v := (.agg #[.int .i64 sy, .slice a9 mY c9])) rfl (by kernel_rfl) (by kernel_rfl) (by kernel_rfl) (fun _ _ _ h => h) (Or.inl ⟨by kernel_rfl, ?_⟩) hH ?_
    · intro w1 hB
      obtain ⟨x0, x1⟩ := (KX.out.below hB).box.cells
      obtain ⟨y0, y1⟩ := (KY.out.below hB).box.cells
      obtain ⟨p0, p1⟩ := (KP.out.below hB).box.cells
      obtain ⟨q0, q1⟩ := (KQ.out.below hB).box.cells
      go_simp
    change wpAnyH _ _ _ _ _ _ _ (Act.put _ (some 25) _) _
    try simp only [Act.put, List.setIfInBounds_toArray, List.set_cons_zero, List.set_cons_succ]
    refine wpAnyH_ready (rs := [2]) (by kernel_rfl) (by simp) ?_
    refine AllReadyH.cons rfl (fun K hK => ?_) AllReadyH.nil
    go_simp
    refine (EX.out _ hH).mono ?_
    rintro e V2 ⟨b2, rfl, i2, v2⟩
    replace i2 := Lib.hid i2
    try go_simp
    refine hK.out _ _ (keepB v2 hH (Nat.le_refl _)) (fun hH2 => ?_)
    clear hK K
    try simp only [Act.put, List.setIfInBounds_toArray, List.set_cons_zero, List.set_cons_succ]
    refine wpAnyH_ready (rs := [5]) (by kernel_rfl) (by simp) ?_
    refine AllReadyH.cons rfl (fun K hK => ?_) AllReadyH.nil
    go_simp
    refine (RE.out _ hH2).mono ?_
    rintro e V5 ⟨b5, rfl, i5, v5⟩
    have ib5 : b5 = b2 := bool_both i2.out i5
    subst ib5
    clear i5
    try go_simp
    refine hK.out _ _ (keepB v5 hH2 (Nat.le_refl _)) (fun hH5 => ?_)
    clear hK K
    try simp only [Act.put, List.setIfInBounds_toArray, List.set_cons_zero, List.set_cons_succ]
    refine wpAnyH_take (i := 6) (v := (.bool true)) rfl (by kernel_rfl) (by kernel_rfl) (by kernel_rfl) (fun _ _ _ h => h) (Or.inl ⟨by kernel_rfl, ?_⟩) hH5 ?_
    · intro w1 hB
      go_simp
    change wpAnyH _ _ _ _ _ _ _ (Act.put _ (some 27) _) _
    try simp only [Act.put, List.setIfInBounds_toArray, List.set_cons_zero, List.set_cons_succ]
    refine wpAnyH_take (i := 7) (v := (.bool true)) rfl (by kernel_rfl) (by kernel_rfl) (by kernel_rfl) (fun _ _ _ h => h) (Or.inl ⟨by kernel_rfl, ?_⟩) hH5 ?_
    · intro w1 hB
      go_simp
    change wpAnyH _ _ _ _ _ _ _ (Act.put _ (some 28) _) _
    try simp only [Act.put, List.setIfInBounds_toArray, List.set_cons_zero, List.set_cons_succ]
    refine wpAnyH_take (i := 8) (v := (.agg #[.int .i64 sp, .slice (some ⟨b, 0, none⟩) np cp])) rfl (by kernel_rfl) (by kernel_rfl) (by kernel_rfl) (fun _ _ _ h => h) (Or.inl ⟨by kernel_rfl, ?_⟩) hH5 ?_
    · intro w1 hB
      obtain ⟨x0, x1⟩ := (KX.out.below hB).box.cells
      obtain ⟨y0, y1⟩ := (KY.out.below hB).box.cells
      obtain ⟨p0, p1⟩ := (KP.out.below hB).box.cells
      obtain ⟨q0, q1⟩ := (KQ.out.below hB).box.cells
      go_simp
    change wpAnyH _ _ _ _ _ _ _ (Act.put _ (some 29) _) _
    try simp only [Act.put, List.setIfInBounds_toArray, List.set_cons_zero, List.set_cons_succ]
    refine wpAnyH_take (i := 9) (v := (.agg #[.int .i64 sq, .slice aq nq cq])) rfl (by kernel_rfl) (by kernel_rfl) (by kernel_rfl) (fun _ _ _ h => h) (Or.inl ⟨by kernel_rfl, ?_⟩) hH5 ?_
    · intro w1 hB
      obtain ⟨x0, x1⟩ := (KX.out.below hB).box.cells
      obtain ⟨y0, y1⟩ := (KY.out.below hB).box.cells
      obtain ⟨p0, p1⟩ := (KP.out.below hB).box.cells
      obtain ⟨q0, q1⟩ := (KQ.out.below hB).box.cells
      go_simp
    change wpAnyH _ _ _ _ _ _ _ (Act.put _ (some 30) _) _
    try simp only [Act.put, List.setIfInBounds_toArray, List.set_cons_zero, List.set_cons_succ]
    refine wpAnyH_take (i := 11) (v := (.agg #[.int .i64 sp, .slice (some ⟨b, 0, none⟩) np cp])) rfl (by kernel_rfl) (by kernel_rfl) (by kernel_rfl) (fun _ _ _ h => h) (Or.inl ⟨by kernel_rfl, ?_⟩) hH5 ?_
    · intro w1 hB
      obtain ⟨x0, x1⟩ := (KX.out.below hB).box.cells
      obtain ⟨y0, y1⟩ := (KY.out.below hB).box.cells
      obtain ⟨p0, p1⟩ := (KP.out.below hB).box.cells
      obtain ⟨q0, q1⟩ := (KQ.out.below hB).box.cells
      go_simp
    change wpAnyH _ _ _ _ _ _ _ (Act.put _ (some 32) _) _
    try simp only [Act.put, List.setIfInBounds_toArray, List.set_cons_zero, List.set_cons_succ]
    refine wpAnyH_take (i := 12) (v := (.agg #[.int .i64 sq, .slice aq nq cq])) rfl (by kernel_rfl) (by kernel_rfl) (by kernel_rfl) (fun _ _ _ h => h) (Or.inl ⟨by kernel_rfl, ?_⟩) hH5 ?_
    · intro w1 hB
      obtain ⟨x0, x1⟩ := (KX.out.below hB).box.cells
      obtain ⟨y0, y1⟩ := (KY.out.below hB).box.cells
      obtain ⟨p0, p1⟩ := (KP.out.below hB).box.cells
      obtain ⟨q0, q1⟩ := (KQ.out.below hB).box.cells
      go_simp
    change wpAnyH _ _ _ _ _ _ _ (Act.put _ (some 33) _) _
    try simp only [Act.put, List.setIfInBounds_toArray, List.set_cons_zero, List.set_cons_succ]
    refine wpAnyH_ready (rs := [10]) (by kernel_rfl) (by simp) ?_
    refine AllReadyH.cons rfl (fun K hK => ?_) AllReadyH.nil
    go_simp
    refine (EP.out _ hH5).mono ?_
    rintro e V10 ⟨b10, rfl, i10, v10⟩
    replace i10 := Lib.hid i10
    try go_simp
    refine hK.out _ _ (keepB v10 hH5 (Nat.le_refl _)) (fun hH10 => ?_)
    clear hK K
    try simp only [Act.put, List.setIfInBounds_toArray, List.set_cons_zero, List.set_cons_succ]
    refine wpAnyH_ready (rs := [13]) (by kernel_rfl) (by simp) ?_
    refine AllReadyH.cons rfl (fun K hK => ?_) AllReadyH.nil
    go_simp
    refine (RP.out _ hH10).mono ?_
    rintro e V13 ⟨b13, rfl, i13, v13⟩
    have ib13 : b13 = b10 := bool_both i10.out i13
    subst ib13
    clear i13
    try go_simp
    refine hK.out _ _ (keepB v13 hH10 (Nat.le_refl _)) (fun hH13 => ?_)
    clear hK K
    try simp only [Act.put, List.setIfInBounds_toArray, List.set_cons_zero, List.set_cons_succ]
    refine wpAnyH_take (i := 14) (v := (.bool true)) rfl (by kernel_rfl) (by kernel_rfl) (by kernel_rfl) (fun _ _ _ h => h) (Or.inl ⟨by kernel_rfl, ?_⟩) hH13 ?_
    · intro w1 hB
      go_simp
    change wpAnyH _ _ _ _ _ _ _ (Act.put _ (some 35) _) _
    try simp only [Act.put, List.setIfInBounds_toArray, List.set_cons_zero, List.set_cons_succ]
    refine wpAnyH_take (i := 15) (v := (.bool true)) rfl (by kernel_rfl) (by kernel_rfl) (by kernel_rfl) (fun _ _ _ h => h) (Or.inl ⟨by kernel_rfl, ?_⟩) hH13 ?_
    · intro w1 hB
      go_simp
    change wpAnyH _ _ _ _ _ _ _ (Act.put _ (some 36) _) _
    try simp only [Act.put, List.setIfInBounds_toArray, List.set_cons_zero, List.set_cons_succ]
    refine wpAnyH_take (i := 16) (v := (.bool true)) rfl (by kernel_rfl) (by kernel_rfl) (by kernel_rfl) (fun _ _ _ h => h) (Or.inl ⟨by kernel_rfl, ?_⟩) hH13 ?_
    · intro w1 hB
      go_simp
    change wpAnyH _ _ _ _ _ _ _ (Act.put _ (some 37) _) _
    try simp only [Act.put, List.setIfInBounds_toArray, List.set_cons_zero, List.set_cons_succ]
    refine wpAnyH_take (i := 17) (v := (.agg #[.int .i64 sp, .slice (some ⟨b, 0, none⟩) np cp])) rfl (by kernel_rfl) (by kernel_rfl) (by kernel_rfl) (fun _ _ _ h => h) (Or.inl ⟨by kernel_rfl, ?_⟩) hH13 ?_
    · intro w1 hB
      obtain ⟨x0, x1⟩ := (KX.out.below hB).box.cells
      obtain ⟨y0, y1⟩ := (KY.out.below hB).box.cells
      obtain ⟨p0, p1⟩ := (KP.out.below hB).box.cells
      obtain ⟨q0, q1⟩ := (KQ.out.below hB).box.cells
      go_simp
    change wpAnyH _ _ _ _ _ _ _ (Act.put _ (some 38) _) _
    try simp only [Act.put, List.setIfInBounds_toArray, List.set_cons_zero, List.set_cons_succ]
    refine wpAnyH_take (i := 18) (v := (.agg #[.int .i64 sp, .slice (some ⟨b, 0, none⟩) np cp])) rfl (by kernel_rfl) (by kernel_rfl) (by kernel_rfl) (fun _ _ _ h => h) (Or.inl ⟨by kernel_rfl, ?_⟩) hH13 ?_
    · intro w1 hB
      obtain ⟨x0, x1⟩ := (KX.out.below hB).box.cells
      obtain ⟨y0, y1⟩ := (KY.out.below hB).box.cells
      obtain ⟨p0, p1⟩ := (KP.out.below hB).box.cells
      obtain ⟨q0, q1⟩ := (KQ.out.below hB).box.cells
      go_simp
    change wpAnyH _ _ _ _ _ _ _ (Act.put _ (some 39) _) _
    try simp only [Act.put, List.setIfInBounds_toArray, List.set_cons_zero, List.set_cons_succ]
    refine wpAnyH_ready (rs := [19]) (by kernel_rfl) (by simp) ?_
    refine AllReadyH.cons rfl (fun K hK => ?_) AllReadyH.nil
    go_simp
    refine (EE.out _ hH13).mono ?_
    rintro e V19 ⟨b19, rfl, i19, v19⟩
    obtain rfl : b19 = true := i19.2 HPP.out
    clear i19
    try go_simp
    refine hK.out _ _ (keepB v19 hH13 (Nat.le_refl _)) (fun hH19 => ?_)
    clear hK K
    try simp only [Act.put, List.setIfInBounds_toArray, List.set_cons_zero, List.set_cons_succ]
    refine wpAnyH_take (i := 20) (v := (.bool true)) rfl (by kernel_rfl) (by kernel_rfl) (by kernel_rfl) (fun _ _ _ h => h) (Or.inl ⟨by kernel_rfl, ?_⟩) hH19 ?_
    · intro w1 hB
      go_simp
    change wpAnyH _ _ _ _ _ _ _ (Act.put _ (some 41) _) _
    try simp only [Act.put, List.setIfInBounds_toArray, List.set_cons_zero, List.set_cons_succ]
    refine wpAnyH_take (i := 21) (v := (.bool true)) rfl (by kernel_rfl) (by kernel_rfl) (by kernel_rfl) (fun _ _ _ h => h) (Or.inl ⟨by kernel_rfl, ?_⟩) hH19 ?_
    · intro w1 hB
      go_simp
    change wpAnyH _ _ _ _ _ _ _ (Act.put _ (some 42) _) _
    try simp only [Act.put, List.setIfInBounds_toArray, List.set_cons_zero, List.set_cons_succ]
    refine wpAnyH_ready (rs := [22]) (by kernel_rfl) (by simp) ?_
    refine AllReadyH.cons rfl (fun K hK => ?_) AllReadyH.nil
    go_simp
    refine (awake_v _).mono ?_
    rintro e V22 ⟨rfl, v22⟩
    try go_simp
    refine hK.out _ _ (keepB v22 hH19 (Nat.le_refl _)) (fun hH22 => ?_)
    clear hK K
    try simp only [Act.put, List.setIfInBounds_toArray, List.set_cons_zero, List.set_cons_succ]
    refine wpAnyH_take (i := 23) (v := (.bool true)) rfl (by kernel_rfl) (by kernel_rfl) (by kernel_rfl) (fun _ _ _ h => h) (Or.inl ⟨by kernel_rfl, ?_⟩) hH22 ?_
    · intro w1 hB
      go_simp
    change wpAnyH _ _ _ _ _ _ _ (Act.put _ (some 44) _) _
    try simp only [Act.put, List.setIfInBounds_toArray, List.set_cons_zero, List.set_cons_succ]
    refine wpAnyH_take (i := 24) (v := (.bool true)) rfl (by kernel_rfl) (by kernel_rfl) (by kernel_rfl) (fun _ _ _ h => h) (Or.inl ⟨by kernel_rfl, ?_⟩) hH22 ?_
    · intro w1 hB
      go_simp
    change wpAnyH _ _ _ _ _ _ _ (Act.put _ (some 6) _) _
    try simp only [Act.put, List.setIfInBounds_toArray, List.set_cons_zero, List.set_cons_succ]
    refine wpAnyH_done (by kernel_rfl) ?_ _
    go_wp2_with fail
    go_ret
    exact ⟨rfl, B10.out.trans (Below.mono hH22 B10.out.size)⟩
end Go.Proofs.Ytjmogoijnkcnpaa.T14
