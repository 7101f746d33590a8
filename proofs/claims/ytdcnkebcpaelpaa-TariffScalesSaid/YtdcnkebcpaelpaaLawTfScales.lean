import Derived.Test.YtdcnkebcpaelpaaTfQ0
import Derived.Test.YtdcnkebcpaelpaaTfS0
import Derived.Test.YtdcnkebcpaelpaaTfW0
import Derived.Test.YtdcnkebcpaelpaaFold6
import Derived.Test.YtdcnkebcpaelpaaRatsE
/- TariffScales for all inputs: if all prices are multiplied by a number, the index is this number; a tariff against itself has the index 1; two steps multiply. -/
namespace Go.Proofs.Ytdcnkebcpaelpaa.T14
open Go.RowKit Go.Sort C6

theorem rMul_i {u v : Value} {p q : Rat} {w : World} (hu : IsQ p 23 u w) (hv : IsQ q 23 v w) : Calls Try.prog 20 #[u, v] w (MakesQ (p * q) 47 w) := by
  obtain ⟨s, ao, n, ca, bo, m, cb, rfl, h1⟩ := hu
  obtain ⟨t, po, l, cl, qo, j, cj, rfl, h2⟩ := hv
  exact rMul_q _ _ _ _ _ _ _ _ _ _ _ _ _ _ 23 _ _ w h1.rq h2.rq (by omega)
theorem SmU.ok {us : List (Int × Int)} (h : SmU us) (h1 : 1 ≤ us.length) (h4 : us.length ≤ 4) : OkU us :=
  ⟨h1, by omega, fun i hi => by have := h i hi; unfold goodu; omega⟩
theorem scl_take (k : Int) (xs : List (Int × Int)) (i : Nat) (hi : i < xs.length) : (scl k xs).take (i + 1) = (scl k xs).take i ++ [(up xs i, k * prc xs i)] := by
  rw [List.take_add_one]
  congr 1
  unfold scl up prc
  simp [List.getD, hi]
/-- the list's cell of a tariff's box turned -/
theorem TfBox.put1 {w : World} {g : Nat} {st : Int} {a : Option Addr} {n c : Nat} (h : TfBox w g st a n c) (a' : Option Addr) (n' c' : Nat) : TfBox (w.setCell ⟨g, 1, none⟩ (.slice a' n' c')) g st a' n' c' := by
  unfold TfBox at h ⊢
  simp [World.setCell, Array.getElem?_modify, h]
theorem TfBox.put0 {w : World} {g : Nat} {st : Int} {a : Option Addr} {n c : Nat} (h : TfBox w g st a n c) (st' : Int) : TfBox (w.setCell ⟨g, 0, none⟩ (.int .i64 st')) g st' a n c := by
  unfold TfBox at h ⊢
  simp [World.setCell, Array.getElem?_modify, h]
theorem ixcall {w : World} {gx gy nx cx ny cy : Nat} {st su : Int} {ax ay uo : Option Addr} {xs ys us : List (Int × Int)} {uc : Nat} (hx : TB w gx st ax nx cx xs) (hy : TB w gy su ay ny cy ys) (hu : RdK w uo uc us) (hl : us.length ≤ 100) :
    Calls Try.prog 12 #[.agg #[.int .i64 st, .slice ax nx cx], .agg #[.int .i64 su, .slice ay ny cy], .slice uo us.length uc] w (MkE (iE st xs su ys us) (ixQ st xs su ys us) 23 w) := by
  have := Index_v st ax cx xs su ay cy ys uo uc us w hx.rd hy.rd hu (by have := hx.max; have := hx.len; omega) (by have := hy.max; have := hy.len; omega) hl
  rwa [hx.len, hy.len] at this
theorem ixQ_ok {st su : Int} {bs cs us : List (Int × Int)} (h : OkB bs) (h2 : OkB cs) (hs : 1 ≤ st) (hs1 : st ≤ 1099511627776) (ht : 1 ≤ su) (ht1 : su ≤ 1099511627776) (hu : OkU us) : iE st bs su cs us = 0 ∧ ixQ st bs su cs us = avgR su cs us / avgR st bs us := by
  have e := iE_ok (tE_zero (by omega) hs1 h) (uE_ok (tE_zero (by omega) ht1 h2) hu) (avg_ne h hs hu)
  exact ⟨e, if_pos e⟩

set_option maxHeartbeats 16000000 in
set_option maxRecDepth 100000 in
theorem TariffScales_any (nn : Int) (ao1 : Option Addr) (ts : List Int) (cap1 : Nat) (w : World) (ht : RdZ w ao1 cap1 ts) :
    Calls Try.prog 4 #[.int .i64 nn, .slice ao1 ts.length cap1] w fun e w' => e = .returned (.bool true) ∧ Below w.heap.size w w' := by
  obtain ⟨i0, hi, hz0, hz1, hz2⟩ := info_parts infoBlk
  obtain ⟨tn, htn⟩ : ∃ n, n = ts.length := ⟨_, rfl⟩
  obtain ⟨W1, hW1⟩ : ∃ W, W = w.alloc (.cells #[.slice ao1 tn cap1, .int .i64 0] 29) := ⟨_, rfl⟩
  obtain ⟨B, hB⟩ : ∃ g, g = w.heap.size := ⟨_, rfl⟩
  have s1 : W1.heap.size = B + 1 := by rw [hW1, hB]; simp
  have b1 : Below w.heap.size w W1 := by rw [hW1]; exact below_new w _
  have t1 : Tap W1 B ao1 tn cap1 0 := by rw [hW1, hB]; exact Tap.new w _ _ _
  have z1 : RdZ W1 ao1 cap1 ts := ht.below b1
  have RZ : ∀ w1, W1.grownBy w1 (some B) → RdZ w1 ao1 cap1 ts := fun w1 h1 => by
    refine ⟨z1.1, z1.2.1, ?_⟩
    rcases z1.2.2 with hn | ⟨b, o, e, hc⟩
    · exact .inl hn
    · refine .inr ⟨b, o, e, fun i v hi => ?_⟩
      have hl : 0 < ts.length := by
        have := (List.getElem?_eq_some_iff.1 hi).1
        rw [intz_length] at this
        omega
      exact h1.cell (hc i v hi) (fun q => by have h8 := rdz_lt ht hl b o e; have h9 : b = B := Option.some.inj q; omega)
  have TF : Hid (∀ w1 j, W1.grownBy w1 (some B) → Tap w1 B ao1 tn cap1 j → j ≤ 1000 → Calls Try.prog 16 #[.pointer (some ⟨B, 0, none⟩)] w1 (TfPost w1 B ao1 tn cap1 j)) := fun w1 j h1 h2 h3 => by
    rw [htn] at h2 ⊢
    exact Tariff_v B ao1 cap1 ts j w1 h2 (RZ w1 h1) (fun h0 b o e => by have h8 := rdz_lt ht h0 b o e; have h9 := h1.size; omega) (by omega)
  have US : Hid (∀ w1 j, W1.grownBy w1 (some B) → Tap w1 B ao1 tn cap1 j → j ≤ 1000 → Calls Try.prog 7 #[.pointer (some ⟨B, 0, none⟩)] w1 (UsPost w1 B ao1 tn cap1 j)) := fun w1 j h1 h2 h3 => by
    rw [htn] at h2 ⊢
    exact Uses_v B ao1 cap1 ts j w1 h2 (RZ w1 h1) (fun h0 b o e => by have h8 := rdz_lt ht h0 b o e; have h9 := h1.size; omega) (by omega)
  have T1 := Lib.hid t1
  have HB1 := Lib.hid b1
  have HBB := Lib.hid hB
  have S1 := Lib.hid s1
  rw [← htn]
  clear htn ht s1 b1 t1 z1 hB RZ
  go_enter Try.func4, Try.ntmps4
  go_wp2_with fail
  rw [← hW1]
  try rw [← HBB.out]
  clear hW1
  refine (TF.out W1 0 (below_gb (Below.refl _ _) _) T1.out (by omega)).mono ?_
  rintro e w3 ⟨sx, bx, cx, xs, j3, rfl, own3, hsx0, hsx1, hokx, hsmx, g3, hj3, t3⟩
  have T3 := Lib.hid t3
  have G3 := Lib.hid g3
  have J3 : Hid (j3 ≤ 11) := by unfold Hid; omega
  clear t3 g3 hj3
  go_wp2_with fail
  refine (TF.out w3 j3 G3.out T3.out (by have := J3.out; omega)).mono ?_
  rintro e w4 ⟨sy, bY, cy, ys, j4, rfl, own4, hsy0, hsy1, hoky, hsmy, g4, hj4, t4⟩
  have T4 := Lib.hid t4
  have G4 := Lib.hid g4
  have J4 : Hid (j4 ≤ 22) := by unfold Hid; have := J3.out; omega
  clear t4 g4 hj4
  go_wp2_with fail
  refine (US.out w4 j4 (gb_trans G3.out G4.out) T4.out (by have := J4.out; omega)).mono ?_
  rintro e w5 ⟨uo, uc, us, j5, rfl, own5, hu1, hu4, hsmu, g5, hj5, t5⟩
  have G5 := Lib.hid g5
  clear t5 hj5 g5
  obtain ⟨nx, hnx⟩ : ∃ n, n = xs.length := ⟨_, rfl⟩
  obtain ⟨ny, hny⟩ : ∃ n, n = ys.length := ⟨_, rfl⟩
  obtain ⟨m, hm⟩ : ∃ n, n = us.length := ⟨_, rfl⟩
  obtain ⟨ax, hax⟩ : ∃ a : Option Addr, a = some ⟨bx, 0, none⟩ := ⟨_, rfl⟩
  obtain ⟨ay, hay⟩ : ∃ a : Option Addr, a = some ⟨bY, 0, none⟩ := ⟨_, rfl⟩
  rw [← hnx, ← hax] at own3
  rw [← hny, ← hay] at own4
  rw [← hm] at own5
  rw [← hnx, ← hny, ← hm, ← hax, ← hay]
  clear hax hay
  obtain ⟨rx3, -, ox3⟩ := rd_of_own own3
  obtain ⟨ry4, -, oy4⟩ := rd_of_own own4
  obtain ⟨ru5, -, ou5⟩ := rd_of_own own5
  obtain ⟨gx, hgx⟩ : ∃ g, g = w5.heap.size := ⟨_, rfl⟩
  obtain ⟨gy, hgy⟩ : ∃ g, g = gx + 1 := ⟨_, rfl⟩
  obtain ⟨W6, hW6⟩ : ∃ W, W = w5.alloc (.cells #[.int .i64 sx, .slice ax nx cx] 24) := ⟨_, rfl⟩
  obtain ⟨W7, hW7⟩ : ∃ W, W = W6.alloc (.cells #[.int .i64 sy, .slice ay ny cy] 24) := ⟨_, rfl⟩
  have s6 : W6.heap.size = gy := by rw [hW6, hgy, hgx]; simp
  have s7 : W7.heap.size = gy + 1 := by rw [hW7]; simp [s6]
  have b6 : Below w5.heap.size w5 W6 := by rw [hW6]; exact below_new w5 _
  have b7 : Below W6.heap.size W6 W7 := by rw [hW7]; exact below_new W6 _
  have b57 : Below w5.heap.size w5 W7 := b6.trans (b7.mono b6.size)
  have hs34 := G3.out.size
  have hs45 := G4.out.size
  have hs56 := G5.out.size
  have hs1 := S1.out
  have rx5 : RdK w5 ax cx xs := (rx3.gbne (fun h0 b o e => by have := ox3 h0 b o e; omega) G4.out).gbne (fun h0 b o e => by have := ox3 h0 b o e; omega) G5.out
  have ry5 : RdK w5 ay cy ys := ry4.gbne (fun h0 b o e => by have := oy4 h0 b o e; omega) G5.out
  have X7 : TfBox W7 gx sx ax nx cx := by
    have : TfBox W6 gx sx ax nx cx := by rw [hW6, hgx]; exact TfBox.new w5 _ _ _ _
    exact this.below b7 this.lt
  have Y7 : TfBox W7 gy sy ay ny cy := by rw [hW7, ← s6]; exact TfBox.new W6 _ _ _ _
  have LX : Hid (offB ax xs (fun b => b < gx)) := fun h0 b o e => by have := rx5.lt h0 b o e; show b < gx; omega
  have LY : Hid (offB ay ys (fun b => b < gx)) := fun h0 b o e => by have := ry5.lt h0 b o e; show b < gx; omega
  have LU : Hid (offB uo us (fun b => b < gx)) := fun h0 b o e => by have := ru5.lt h0 b o e; show b < gx; omega
  have RX7 := Lib.hid (rx5.below b57)
  have RY7 := Lib.hid (ry5.below b57)
  have RU7 := Lib.hid (ru5.below b57)
  have B5 : Below w.heap.size w w5 := HB1.out.grown (gb_trans (gb_trans G3.out G4.out) G5.out) HB1.out.size (fun r e => by have := Option.some.inj e; have := HBB.out; omega)
  have B7 : Hid (Below w.heap.size w W7) := B5.trans (b57.mono B5.size)
  have HGX : Hid (w.heap.size ≤ gx ∧ gy = gx + 1) := ⟨by have := B5.size; omega, hgy⟩
  have HX7 := Lib.hid X7
  have HY7 := Lib.hid Y7
  have HS7 := Lib.hid s7
  have HNX := Lib.hid hnx
  have HNY := Lib.hid hny
  have HM := Lib.hid hm
  have HOKX : Hid (OkB xs ∧ SmB xs) := ⟨hokx, hsmx⟩
  have HOKY : Hid (OkB ys ∧ SmB ys) := ⟨hoky, hsmy⟩
  have HOKU : Hid (OkU us) := hsmu.ok (by omega) (by omega)
  have hnx4 : nx ≤ 4 := by have := hsmx.1; omega
  have HMB : Hid (m ≤ 4) := by unfold Hid; omega
  have HW7 : Hid (W7 = (w5.alloc (.cells #[.int .i64 sx, .slice ax nx cx] 24)).alloc (.cells #[.int .i64 sy, .slice ay ny cy] 24)) := by unfold Hid; rw [hW7, hW6]
  have HVX := Lib.hid hgx
  have HVY := Lib.hid hgy
  obtain ⟨k0, k1⟩ := X7.cells
  obtain ⟨j0, j1⟩ := Y7.cells
  have kf := X7.fz 0
  have jf := Y7.fz 0
  have hne : gx ≠ gy := by omega
  clear own3 own4 own5 hu1 hu4 hsmu hokx hsmx hoky hsmy hnx hny hm rx3 ox3 ry4 oy4 ru5 ou5 rx5 ry5 hgx hgy hW6 hW7 s6 s7 b6 b7 b57 hs34 hs45 hs56 hs1 X7 Y7 B5 T3 T4 G3 G4 G5 J3 J4 TF US T1 HB1 S1
  go_upto_region 3 with fail
  rw [← HW7.out]
  try rw [← HVX.out]
  try rw [← HVY.out]
  clear HW7 HVX
  have HNE : Hid (gx < gy) := by unfold Hid; have := HGX.out; omega
  obtain ⟨ux, hux⟩ : ∃ u, u = sx + 1 := ⟨_, rfl⟩
  obtain ⟨uy, huy⟩ : ∃ u, u = sy + 1 := ⟨_, rfl⟩
  have wx1 : IntKind.i64.wrap (sx + 1) = ux := by rw [hux]; exact IntWalk.i64_in _ (by omega)
  have wy1 : IntKind.i64.wrap (sy + 1) = uy := by rw [huy]; exact IntWalk.i64_in _ (by omega)
  have HUX : Hid (1 ≤ ux ∧ ux ≤ 500) := ⟨by omega, by omega⟩
  have HUY : Hid (1 ≤ uy ∧ uy ≤ 500) := ⟨by omega, by omega⟩
  clear hux huy hsx0 hsx1 hsy0 hsy1
  go_cut [] from 31 to 38 (fun (wx : World) => Hid (TfBox wx gx ux ax nx cx) ∧ Hid (TfBox wx gy uy ay ny cy) ∧ Hid (Below gx W7 wx))
  case first =>
    go_region_law (fail)
    all_goals
      go_wp2_with fail
      go_meet
      have hg := HNE.out
      have nn : ∀ {x y : Nat}, x ≠ y → some x ≠ some y := fun h e => h (Option.some.inj e)
      have x8 : TfBox (W7.setCell ⟨gx, 0, none⟩ (.int .i64 ux)) gx ux ax nx cx := HX7.out.put0 ux
      have y8 : TfBox (W7.setCell ⟨gx, 0, none⟩ (.int .i64 ux)) gy sy ay ny cy := HY7.out.grown (gb_set W7 gx 0 _) (nn (by omega))
      have b8 : Below gx W7 (W7.setCell ⟨gx, 0, none⟩ (.int .i64 ux)) := Below.setCell (p := ⟨gx, 0, none⟩) (Below.refl gx W7) (Nat.le_refl gx) _
      have b9 := Below.setCell (p := ⟨gy, 0, none⟩) b8 (Nat.le_of_lt hg) (.int .i64 uy)
      exact ⟨show TfBox _ gx ux ax nx cx from (x8.grown (gb_set (W7.setCell ⟨gx, 0, none⟩ (.int .i64 ux)) gy 0 (.int .i64 uy)) (nn (by omega)) : TfBox ((W7.setCell ⟨gx, 0, none⟩ (.int .i64 ux)).setCell ⟨gy, 0, none⟩ (.int .i64 uy)) gx ux ax nx cx), show TfBox _ gy uy ay ny cy from (y8.put0 uy : TfBox ((W7.setCell ⟨gx, 0, none⟩ (.int .i64 ux)).setCell ⟨gy, 0, none⟩ (.int .i64 uy)) gy uy ay ny cy), b9.drew⟩
  case rest =>
  obtain ⟨hX8, hY8, hB8⟩ := hcut
  rename World => W8
  clear k0 k1 j0 j1 kf jf wx1 wy1 hne HX7 HY7
  have RX8 : Hid (RdK W8 ax cx xs) := RX7.out.keep LX.out hB8.out
  have RY8 : Hid (RdK W8 ay cy ys) := RY7.out.keep LY.out hB8.out
  have RU8 : Hid (RdK W8 uo uc us) := RU7.out.keep LU.out hB8.out
  have HS8 : Hid (gy < W8.heap.size) := hY8.out.lt
  have B8 : Hid (Below w.heap.size w W8) := B7.out.trans (hB8.out.mono HGX.out.1)
  clear RX7 RY7 RU7 HS7 B7 hB8
  go_wp2_with fail
  refine (Fold_v nn 9 (by omega) (by omega) W8 _ rfl).mono ?_
  rintro e wf ⟨k, rfl, hk, rfl⟩
  obtain ⟨Kf, hK⟩ : ∃ Kf : Nat, (1 : Int) + (k : Int) = (Kf : Int) := ⟨1 + k, by omega⟩
  have HK : Hid (1 ≤ Kf ∧ Kf ≤ 9) := ⟨by omega, by omega⟩
  have hKb : (Kf : Int) ≤ 9 := by omega
  obtain ⟨sz, hsz⟩ : ∃ z, (Kf : Int) * ux = z := ⟨_, rfl⟩
  have hszb : 0 ≤ sz ∧ sz ≤ 4500 := by
    rw [← hsz]
    have h1 := HUX.out
    have h2 := HK.out
    have h3 : (Kf : Int) * ux ≤ 9 * 500 := Int.mul_le_mul (by omega) (by omega) (by omega) (by omega)
    have h4 : 0 ≤ (Kf : Int) * ux := Int.mul_nonneg (by omega) (by omega)
    omega
  have hszw : IntKind.i64.wrap sz = sz := wrap_mid (by omega) (by omega)
  have hz1' : 1 ≤ sz := by
    rw [← hsz]
    have h1 := HUX.out
    have h2 := HK.out
    have h3 : (1 : Int) * 1 ≤ (Kf : Int) * ux := Int.mul_le_mul (by omega) (by omega) (by omega) (by omega)
    omega
  have HSZ : Hid (1 ≤ sz ∧ sz ≤ 4500) := ⟨hz1', hszb.2⟩
  have HSZE : Hid (sz = (Kf : Int) * ux) := hsz.symm
  obtain ⟨k0, k1⟩ := hX8.out.cells
  obtain ⟨gz, hgz⟩ : ∃ g, g = W8.heap.size := ⟨_, rfl⟩
  obtain ⟨W9, hW9⟩ : ∃ W, W = W8.alloc (.cells #[.int .i64 sz, .slice none 0 0] 24) := ⟨_, rfl⟩
  have b9 : Below W8.heap.size W8 W9 := by rw [hW9]; exact below_new W8 _
  have z9 : TfBox W9 gz sz none 0 0 := by rw [hW9, hgz]; exact TfBox.new W8 _ _ _ _
  have s9 : W9.heap.size = gz + 1 := by rw [hW9, hgz]; simp
  have X9 : Hid (TfBox W9 gx ux ax nx cx) := hX8.out.below b9 hX8.out.lt
  have Y9 : Hid (TfBox W9 gy uy ay ny cy) := hY8.out.below b9 hY8.out.lt
  have Z9 := Lib.hid z9
  have S9 := Lib.hid s9
  have RX9 := Lib.hid (RX8.out.below b9)
  have RY9 := Lib.hid (RY8.out.below b9)
  have RU9 := Lib.hid (RU8.out.below b9)
  have B9 : Hid (Below w.heap.size w W9) := B8.out.trans (b9.mono B8.out.size)
  have HGZ : Hid (gx < gy ∧ gy < gz ∧ w.heap.size ≤ gz) := ⟨HNE.out, by have := HS8.out; omega, by have := B8.out.size; omega⟩
  have HW9 := Lib.hid hW9
  have HVZ := Lib.hid hgz
  clear hX8 hY8 RX8 RY8 RU8 HS8 B8 b9 z9 s9 hz1' hgz hW9 hk
  go_upto_region 6 with fail
  rw [← HW9.out]
  try rw [← HVZ.out]
  clear HW9 HVZ k0 k1 hszb hszw hK
  obtain ⟨k0, k1⟩ := X9.out.cells
  go_wp2_with fail
  go_loopw [50] (fun s50 wr => ∃ (i : Nat) (av : Option Addr) (c : Nat), i ≤ nx ∧ s50 = .int .i64 (i : Int) ∧ Hid (TfBox wr gz sz av i c) ∧ Hid (wr.ownsRow (gz + 1) 51 2 (.slice av i c) i (bkv ((scl (Kf : Int) xs).take i))) ∧ Hid (W9.grownBy wr (some gz))) (fun s50 _ => nx - (intOf s50).toNat)
  case atStart => exact ⟨0, none, 0, by omega, rfl, Z9.out, by rw [List.take_zero]; exact World.ownsRow_nil _ _ _ _, below_gb (Below.refl _ _) _⟩
  case round =>
    obtain ⟨i, av, c, hin, rfl, hT, hO, hG⟩ := hrel
    by_cases hlt : i < nx
    · have hlt2 : (i : Int) < (nx : Int) := by omega
      have hxl : i < xs.length := by have := HNX.out; omega
      obtain ⟨b, o, rfl, hc⟩ := (RX9.out.gbne (fun h0 b o e => by have := LX.out h0 b o e; have := HGZ.out; show b ≠ gz; omega) hG.out).at (i := i) hxl
      obtain ⟨c0, c1⟩ := hc i hxl
      obtain ⟨u, hu⟩ : ∃ u, u = (xs.getD i (0, 0)).1 := ⟨_, rfl⟩
      obtain ⟨p, hp⟩ : ∃ p, p = (xs.getD i (0, 0)).2 := ⟨_, rfl⟩
      rw [← hu] at c0
      rw [← hp] at c1
      obtain ⟨q, hq⟩ : ∃ q, (Kf : Int) * p = q := ⟨_, rfl⟩
      have hqb : 0 ≤ q ∧ q ≤ 270 := by
        have h1 := HK.out
        have h2 := (HOKX.out.1.price i hxl).1
        have h3 := HOKX.out.2.2.2 i
        have e : prc xs i = p := hp.symm
        rw [e] at h2 h3
        rw [← hq]
        have h5 : (Kf : Int) * p ≤ 9 * 30 := Int.mul_le_mul (by omega) h3 h2 (by omega)
        have h6 : 0 ≤ (Kf : Int) * p := Int.mul_nonneg (by omega) h2
        omega
      have hqw : IntKind.i64.wrap q = q := wrap_mid (by omega) (by omega)
      have HQE : Hid ((scl (Kf : Int) xs).take (i + 1) = (scl (Kf : Int) xs).take i ++ [(u, q)]) := by
        have := scl_take (Kf : Int) xs i hxl
        have e1 : up xs i = u := hu.symm
        have e2 : prc xs i = p := hp.symm
        rw [e1, e2, hq] at this
        exact this
      obtain ⟨W, hW⟩ : ∃ W, W = wr.alloc (.cells #[.int .i64 u, .int .i64 p] 51) := ⟨_, rfl⟩
      obtain ⟨gb, hgb⟩ : ∃ g, g = wr.heap.size := ⟨_, rfl⟩
      have bW : Below wr.heap.size wr W := by rw [hW]; exact below_new wr _
      have KB : W.heap[gb]? = some (.cells #[.int .i64 u, .int .i64 p] 51 (0, 0)) := by rw [hW, hgb]; exact heap_alloc_new _ _
      have m0 : W.cell? ⟨gb, 0, none⟩ = some (.int .i64 u) := by simp [World.cell?, KB]
      have m1 : W.cell? ⟨gb, 1, none⟩ = some (.int .i64 p) := by simp [World.cell?, KB]
      have TW : Hid (TfBox W gz sz av i c) := hT.out.below bW hT.out.lt
      have OW : Hid (W.ownsRow (gz + 1) 51 2 (.slice av i c) i (bkv ((scl (Kf : Int) xs).take i))) := own_below hO.out bW
      have GW : Hid (W9.grownBy W (some gz)) := gb_trans hG.out (below_gb bW _)
      have HLW : Hid (gz + 1 ≤ W.heap.size) := by unfold Hid; have := GW.out.size; have := S9.out; omega
      have hcap : i ≤ c := by
        rcases OW.out.2 with ⟨e, h0⟩ | ⟨_, cap', _, e, _, _, hn, _⟩
        · omega
        · cases e; exact hn
      obtain ⟨q0, q1⟩ := TW.out.cells
      have HWW := Lib.hid hW
      have HGB := Lib.hid hgb
      clear hu hp hc bW KB hT hO hG hW hgb hxl
      go_upto_region 9 with fail
      rw [← HWW.out]
      try rw [← HGB.out]
      clear HWW HGB c0 c1
      go_wp2_with (at_builtin; go_loud (refine wpList_append_own _ rfl _ _ 22 rfl (gz + 1) 51 i0 (.agg #[.int .i64 0, .int .i64 0]) 2 16 Try.underlying22 hi hz0 hz1 hz2 rfl (by omega) _ _ _ rfl (OW.out.alloc _) ⟨W.heap.size, 0, none⟩ 1 1 [.int .i64 u, .int .i64 q] rfl rfl (two_cell _ _ _ _) (bkv_one' [(u, q)]) (by unfold maxLen; omega) (by omega) (by have := HLW.out; simp; omega) ?_; intro v4 w4 hown4 hgr4 _; obtain ⟨a4, c4, rfl⟩ := of_row_k hown4; have f4 := (TW.out.below (below_new W (.cells #[.int .i64 u, .int .i64 q] 51)) TW.out.lt).grown hgr4 (fun e => by have := (OW.out.lt gz e.symm).1; omega); have q4 := f4.cells.2; have qf4 := f4.fz 1))
      have hgb4 : ∀ r, (Value.slice av i c).ownBlock = some r → gz + 1 ≤ r := fun r e => (OW.out.lt r e).1
      have G4 : Hid (W9.grownBy (w4.setCell ⟨gz, 1, none⟩ (.slice a4 (i + 1) c4)) (some gz)) := gb_trans (gbjoin (gb_trans GW.out (below_gb (below_new W (.cells #[.int .i64 u, .int .i64 q] 51)) _)) hgr4 (fun r e => by have := hgb4 r e; have := S9.out; omega)) (gb_set w4 gz 1 _)
      have T4 : Hid (TfBox (w4.setCell ⟨gz, 1, none⟩ (.slice a4 (i + 1) c4)) gz sz a4 (i + 1) c4) := f4.put1 _ _ _
      have O4 : Hid ((w4.setCell ⟨gz, 1, none⟩ (.slice a4 (i + 1) c4)).ownsRow (gz + 1) 51 2 (.slice a4 (i + 1) c4) (i + 1) (bkv ((scl (Kf : Int) xs).take (i + 1)))) := by
        rw [HQE.out, bkv_append]
        exact hown4.kept (gb_set w4 gz 1 _) (rowne hown4 (by omega))
      clear hown4 hgr4 f4 q4 qf4 hgb4 TW OW GW HLW m0 m1 q0 q1 hqb hqw hq HQE
      go_roundw
      case rel => exact ⟨i + 1, a4, c4, by omega, by simp, T4.out, O4.out, G4.out⟩
      case measure => simp [intOf]; omega
    · obtain rfl : i = nx := by omega
      obtain ⟨W10, hW10⟩ : ∃ W, W = wr := ⟨_, rfl⟩
      rw [← hW10] at hT hO hG ⊢
      clear hW10 k0 k1
      have hzl : (scl (Kf : Int) xs).take i = scl (Kf : Int) xs := List.take_of_length_le (by rw [scl_length]; have := HNX.out; omega)
      rw [hzl] at hO
      obtain ⟨rz, hzn, ozz⟩ := rd_of_own hO.out
      obtain ⟨zs, hzs⟩ : ∃ z, z = scl (Kf : Int) xs := ⟨_, rfl⟩
      rw [← hzs] at rz hzn ozz
      have KX : Hid (TB W10 gx ux ax i cx xs) := ⟨X9.out.grown hG.out (fun e => by have := Option.some.inj e; have := HGZ.out; omega), RX9.out.gbne (fun h0 b o e => by have := LX.out h0 b o e; have := HGZ.out; show b ≠ gz; omega) hG.out, HNX.out.symm, by have := HOKX.out.2.1; have := HNX.out; omega⟩
      have KY : Hid (TB W10 gy uy ay ny cy ys) := ⟨Y9.out.grown hG.out (fun e => by have := Option.some.inj e; have := HGZ.out; omega), RY9.out.gbne (fun h0 b o e => by have := LY.out h0 b o e; have := HGZ.out; show b ≠ gz; omega) hG.out, HNY.out.symm, by have := HOKY.out.2.1; have := HNY.out; omega⟩
      have KZ : Hid (TB W10 gz sz av i c zs) := ⟨hT.out, rz, hzn, by have := HOKX.out.2.1; have := HNX.out; omega⟩
      have RU10 : Hid (RdK W10 uo uc us) := RU9.out.gbne (fun h0 b o e => by have := LU.out h0 b o e; have := HGZ.out; show b ≠ gz; omega) hG.out
      have B10 : Hid (Below w.heap.size w W10) := B9.out.grown hG.out B9.out.size (fun r e => by have := Option.some.inj e; have := HGZ.out; omega)
      have HOKZ : OkB zs := by
        rw [hzs]
        refine scl_ok HOKX.out.1 (by omega) (fun j hj => ?_)
        have h1 := HK.out
        have h2 := (HOKX.out.1.price j hj).1
        have h3 := HOKX.out.2.2.2 j
        have h5 : (Kf : Int) * prc xs j ≤ 9 * 30 := Int.mul_le_mul (by omega) h3 h2 (by omega)
        omega
      have hux := HUX.out
      have huy := HUY.out
      have hsz' := HSZ.out
      have QXX := ixQ_ok HOKX.out.1 HOKX.out.1 hux.1 (by omega) hux.1 (by omega) HOKU.out
      have QXZ := ixQ_ok HOKX.out.1 HOKZ hux.1 (by omega) hsz'.1 (by omega) HOKU.out
      have QXY := ixQ_ok HOKX.out.1 HOKY.out.1 hux.1 (by omega) huy.1 (by omega) HOKU.out
      have QYZ := ixQ_ok HOKY.out.1 HOKZ huy.1 (by omega) hsz'.1 (by omega) HOKU.out
      have nzx : avgR ux xs us ≠ 0 := avg_ne HOKX.out.1 hux.1 HOKU.out
      have nzy : avgR uy ys us ≠ 0 := avg_ne HOKY.out.1 huy.1 HOKU.out
      have hzk : avgR sz zs us = ((Kf : Int) : Rat) * avgR ux xs us := by rw [hzs, HSZE.out]; exact scl_avg (Kf : Int) ux xs us
      obtain ⟨q2, hq2⟩ : ∃ q, q = avgR sz zs us / avgR ux xs us := ⟨_, rfl⟩
      obtain ⟨q3, hq3⟩ : ∃ q, q = avgR uy ys us / avgR ux xs us := ⟨_, rfl⟩
      obtain ⟨q4, hq4⟩ : ∃ q, q = avgR sz zs us / avgR uy ys us := ⟨_, rfl⟩
      have HQ2 : Hid (q2 = ((Kf : Int) : Rat)) := by unfold Hid; rw [hq2, hzk]; exact Rat.mul_div_cancel nzx
      have HQ3 : Hid (q3 * q4 = q2) := by
        unfold Hid
        rw [hq2, hq3, hq4, Rat.div_def, Rat.div_def, Rat.div_def, Rat.mul_comm (avgR uy ys us), Rat.mul_assoc, Rat.mul_comm (avgR uy ys us), Rat.mul_assoc, Rat.inv_mul_cancel _ nzy, Rat.mul_one, Rat.mul_comm]
      have HQ1 : avgR ux xs us / avgR ux xs us = 1 := by rw [Rat.div_def]; exact Rat.mul_inv_cancel _ nzx
      have IXX : Hid (∀ w', Below W10.heap.size W10 w' → Calls Try.prog 12 #[.agg #[.int .i64 ux, .slice ax i cx], .agg #[.int .i64 ux, .slice ax i cx], .slice uo m uc] w' (MkE 0 1 23 w')) := fun w' hb => by
        have := ixcall (KX.out.below hb) (KX.out.below hb) (RU10.out.below hb) (by have := HM.out; have := HMB.out; omega)
        rw [QXX.1, QXX.2, HQ1, ← HM.out] at this
        exact this
      have IXZ : Hid (∀ w', Below W10.heap.size W10 w' → Calls Try.prog 12 #[.agg #[.int .i64 ux, .slice ax i cx], .agg #[.int .i64 sz, .slice av i c], .slice uo m uc] w' (MkE 0 q2 23 w')) := fun w' hb => by
        have := ixcall (KX.out.below hb) (KZ.out.below hb) (RU10.out.below hb) (by have := HM.out; have := HMB.out; omega)
        rw [QXZ.1, QXZ.2, ← hq2, ← HM.out] at this
        exact this
      have IXY : Hid (∀ w', Below W10.heap.size W10 w' → Calls Try.prog 12 #[.agg #[.int .i64 ux, .slice ax i cx], .agg #[.int .i64 uy, .slice ay ny cy], .slice uo m uc] w' (MkE 0 q3 23 w')) := fun w' hb => by
        have := ixcall (KX.out.below hb) (KY.out.below hb) (RU10.out.below hb) (by have := HM.out; have := HMB.out; omega)
        rw [QXY.1, QXY.2, ← hq3, ← HM.out] at this
        exact this
      have IYZ : Hid (∀ w', Below W10.heap.size W10 w' → Calls Try.prog 12 #[.agg #[.int .i64 uy, .slice ay ny cy], .agg #[.int .i64 sz, .slice av i c], .slice uo m uc] w' (MkE 0 q4 23 w')) := fun w' hb => by
        have := ixcall (KY.out.below hb) (KZ.out.below hb) (RU10.out.below hb) (by have := HM.out; have := HMB.out; omega)
        rw [QYZ.1, QYZ.2, ← hq4, ← HM.out] at this
        exact this
      clear hzl hT hO hG rz hzn ozz hzs HOKZ hux huy hsz' QXX QXZ QXY QYZ nzx nzy hzk hq2 hq3 hq4 HQ1 X9 Y9 Z9 S9 RX9 RY9 RU9 B9 HSZ HSZE HOKX HOKY HOKU LX LY LU HNX HNY HM HMB HUX HUY HGZ HNE hsz hin hlt hnx4 hKb
      have RB10 : Hid (Below W10.heap.size W10 W10) := Below.refl _ _
      obtain ⟨k0, k1⟩ := (KX.out.below RB10.out).box.cells
      obtain ⟨j0, j1⟩ := (KY.out.below RB10.out).box.cells
      obtain ⟨i0', i1'⟩ := (KZ.out.below RB10.out).box.cells
      go_wp2_with fail
      refine (IXX.out _ RB10.out).mono ?_
      rintro e u11 ⟨v11, rfl, ⟨s11, a11, n11, c11, o11, m11, d11, rfl, q11⟩, h11⟩
      obtain ⟨U11, hU11⟩ : ∃ W, W = u11.alloc (.cells #[.bool s11, .slice a11 n11 c11, .slice o11 m11 d11] 40) := ⟨_, rfl⟩
      obtain ⟨g11, hg11⟩ : ∃ g, g = u11.heap.size := ⟨_, rfl⟩
      have x11 : U11.heap[g11]? = some (.cells #[.bool s11, .slice a11 n11 c11, .slice o11 m11 d11] 40 (0, 0)) := by rw [hU11, hg11]; exact heap_alloc_new _ _
      have e11 : Below u11.heap.size u11 U11 := by rw [hU11]; exact below_new u11 _
      have f11 : Below W10.heap.size W10 U11 := h11.trans (e11.mono h11.size)
      have BB11 : Hid (Below W10.heap.size W10 U11) := Below.trans RB10.out (f11.mono (Below.size RB10.out))
      have XX11 := Lib.hid x11
      have QQ11 : Hid (IsQ 1 23 (.agg #[.bool s11, .slice a11 n11 c11, .slice o11 m11 d11]) U11) := ⟨_, _, _, _, _, _, _, rfl, q11.below e11⟩
      clear k0 k1 j0 j1 i0' i1'
      obtain ⟨k0, k1⟩ := (KX.out.below BB11.out).box.cells
      obtain ⟨j0, j1⟩ := (KY.out.below BB11.out).box.cells
      obtain ⟨i0', i1'⟩ := (KZ.out.below BB11.out).box.cells
      rw [hU11] at k0 k1 j0 j1 i0' i1'
      have HU11 := Lib.hid hU11
      have HG11 := Lib.hid hg11
      clear x11 e11 f11 h11 q11 hU11 hg11
      go_upto_region 12 with fail
      rw [← HU11.out] at k0 k1 j0 j1 i0' i1' ⊢
      try rw [← HG11.out]
      clear HU11 HG11
      go_wp2_with fail
      refine (IXZ.out _ BB11.out).mono ?_
      rintro e u12 ⟨v12, rfl, ⟨s12, a12, n12, c12, o12, m12, d12, rfl, q12⟩, h12⟩
      obtain ⟨U12, hU12⟩ : ∃ W, W = u12.alloc (.cells #[.bool s12, .slice a12 n12 c12, .slice o12 m12 d12] 40) := ⟨_, rfl⟩
      obtain ⟨g12, hg12⟩ : ∃ g, g = u12.heap.size := ⟨_, rfl⟩
      have x12 : U12.heap[g12]? = some (.cells #[.bool s12, .slice a12 n12 c12, .slice o12 m12 d12] 40 (0, 0)) := by rw [hU12, hg12]; exact heap_alloc_new _ _
      have e12 : Below u12.heap.size u12 U12 := by rw [hU12]; exact below_new u12 _
      have f12 : Below U11.heap.size U11 U12 := h12.trans (e12.mono h12.size)
      have BB12 : Hid (Below W10.heap.size W10 U12) := Below.trans BB11.out (f12.mono (Below.size BB11.out))
      have XX12 := Lib.hid x12
      have QQ12 : Hid (IsQ q2 23 (.agg #[.bool s12, .slice a12 n12 c12, .slice o12 m12 d12]) U12) := ⟨_, _, _, _, _, _, _, rfl, q12.below e12⟩
      replace XX11 := Lib.hid (carry XX11.out f12)
      replace QQ11 := Lib.hid (IsQ.below QQ11.out f12)
      clear k0 k1 j0 j1 i0' i1'
      obtain ⟨k0, k1⟩ := (KX.out.below BB12.out).box.cells
      obtain ⟨j0, j1⟩ := (KY.out.below BB12.out).box.cells
      obtain ⟨i0', i1'⟩ := (KZ.out.below BB12.out).box.cells
      rw [hU12] at k0 k1 j0 j1 i0' i1'
      have HU12 := Lib.hid hU12
      have HG12 := Lib.hid hg12
      clear x12 e12 f12 h12 q12 hU12 hg12
      go_upto_region 13 with fail
      rw [← HU12.out] at k0 k1 j0 j1 i0' i1' ⊢
      try rw [← HG12.out]
      clear HU12 HG12
      go_wp2_with fail
      refine (IXY.out _ BB12.out).mono ?_
      rintro e u13 ⟨v13, rfl, ⟨s13, a13, n13, c13, o13, m13, d13, rfl, q13⟩, h13⟩
      obtain ⟨U13, hU13⟩ : ∃ W, W = u13.alloc (.cells #[.bool s13, .slice a13 n13 c13, .slice o13 m13 d13] 40) := ⟨_, rfl⟩
      obtain ⟨g13, hg13⟩ : ∃ g, g = u13.heap.size := ⟨_, rfl⟩
      have x13 : U13.heap[g13]? = some (.cells #[.bool s13, .slice a13 n13 c13, .slice o13 m13 d13] 40 (0, 0)) := by rw [hU13, hg13]; exact heap_alloc_new _ _
      have e13 : Below u13.heap.size u13 U13 := by rw [hU13]; exact below_new u13 _
      have f13 : Below U12.heap.size U12 U13 := h13.trans (e13.mono h13.size)
      have BB13 : Hid (Below W10.heap.size W10 U13) := Below.trans BB12.out (f13.mono (Below.size BB12.out))
      have XX13 := Lib.hid x13
      have QQ13 : Hid (IsQ q3 23 (.agg #[.bool s13, .slice a13 n13 c13, .slice o13 m13 d13]) U13) := ⟨_, _, _, _, _, _, _, rfl, q13.below e13⟩
      replace XX11 := Lib.hid (carry XX11.out f13)
      replace QQ11 := Lib.hid (IsQ.below QQ11.out f13)
      replace XX12 := Lib.hid (carry XX12.out f13)
      replace QQ12 := Lib.hid (IsQ.below QQ12.out f13)
      clear k0 k1 j0 j1 i0' i1'
      obtain ⟨k0, k1⟩ := (KX.out.below BB13.out).box.cells
      obtain ⟨j0, j1⟩ := (KY.out.below BB13.out).box.cells
      obtain ⟨i0', i1'⟩ := (KZ.out.below BB13.out).box.cells
      rw [hU13] at k0 k1 j0 j1 i0' i1'
      have HU13 := Lib.hid hU13
      have HG13 := Lib.hid hg13
      clear x13 e13 f13 h13 q13 hU13 hg13
      go_upto_region 14 with fail
      rw [← HU13.out] at k0 k1 j0 j1 i0' i1' ⊢
      try rw [← HG13.out]
      clear HU13 HG13
      go_wp2_with fail
      refine (IYZ.out _ BB13.out).mono ?_
      rintro e u14 ⟨v14, rfl, ⟨s14, a14, n14, c14, o14, m14, d14, rfl, q14⟩, h14⟩
      obtain ⟨U14, hU14⟩ : ∃ W, W = u14.alloc (.cells #[.bool s14, .slice a14 n14 c14, .slice o14 m14 d14] 40) := ⟨_, rfl⟩
      obtain ⟨g14, hg14⟩ : ∃ g, g = u14.heap.size := ⟨_, rfl⟩
      have x14 : U14.heap[g14]? = some (.cells #[.bool s14, .slice a14 n14 c14, .slice o14 m14 d14] 40 (0, 0)) := by rw [hU14, hg14]; exact heap_alloc_new _ _
      have e14 : Below u14.heap.size u14 U14 := by rw [hU14]; exact below_new u14 _
      have f14 : Below U13.heap.size U13 U14 := h14.trans (e14.mono h14.size)
      have BB14 : Hid (Below W10.heap.size W10 U14) := Below.trans BB13.out (f14.mono (Below.size BB13.out))
      have XX14 := Lib.hid x14
      have QQ14 : Hid (IsQ q4 23 (.agg #[.bool s14, .slice a14 n14 c14, .slice o14 m14 d14]) U14) := ⟨_, _, _, _, _, _, _, rfl, q14.below e14⟩
      replace XX11 := Lib.hid (carry XX11.out f14)
      replace QQ11 := Lib.hid (IsQ.below QQ11.out f14)
      replace XX12 := Lib.hid (carry XX12.out f14)
      replace QQ12 := Lib.hid (IsQ.below QQ12.out f14)
      replace XX13 := Lib.hid (carry XX13.out f14)
      replace QQ13 := Lib.hid (IsQ.below QQ13.out f14)
      clear k0 k1 j0 j1 i0' i1'
      obtain ⟨k0, k1⟩ := (KX.out.below BB14.out).box.cells
      obtain ⟨j0, j1⟩ := (KY.out.below BB14.out).box.cells
      obtain ⟨i0', i1'⟩ := (KZ.out.below BB14.out).box.cells
      rw [hU14] at k0 k1 j0 j1 i0' i1'
      have HU14 := Lib.hid hU14
      have HG14 := Lib.hid hg14
      clear x14 e14 f14 h14 q14 hU14 hg14
      go_upto_region 15 with fail
      rw [← HU14.out] at k0 k1 j0 j1 i0' i1' ⊢
      try rw [← HG14.out]
      clear HU14 HG14
      go_wp2_with fail
      clear k0 k1 j0 j1 i0' i1'
      refine wp_region_held_drew (S := fun w' => Below U14.heap.size U14 w') (by kernel_rfl) ((Below.refl _ _).drew) (fun hH => ?_)
      refine wpAnyH_take (i := 0) (v := (.bool true)) rfl (by kernel_rfl) (by kernel_rfl) (by kernel_rfl) (fun _ _ _ h => h) (Or.inl ⟨by kernel_rfl, ?_⟩) hH ?_
      · intro w1 hB
        go_simp
      change wpAnyH _ _ _ _ _ _ _ (Act.put _ (some 109) _) _
      try simp only [Act.put, List.setIfInBounds_toArray, List.set_cons_zero, List.set_cons_succ]
      refine wpAnyH_take (i := 1) (v := (.bool true)) rfl (by kernel_rfl) (by kernel_rfl) (by kernel_rfl) (fun _ _ _ h => h) (Or.inl ⟨by kernel_rfl, ?_⟩) hH ?_
      · intro w1 hB
        go_simp
      change wpAnyH _ _ _ _ _ _ _ (Act.put _ (some 110) _) _
      try simp only [Act.put, List.setIfInBounds_toArray, List.set_cons_zero, List.set_cons_succ]
      refine wpAnyH_take (i := 2) (v := (.agg #[.bool s11, .slice a11 n11 c11, .slice o11 m11 d11])) rfl (by kernel_rfl) (by kernel_rfl) (by kernel_rfl) (fun _ _ _ h => h) (Or.inl ⟨by kernel_rfl, ?_⟩) hH ?_
      · intro w1 hB
        obtain ⟨p11, p11', p11'', -, -, -⟩ := at_block (carry XX11.out hB)
        obtain ⟨p12, p12', p12'', -, -, -⟩ := at_block (carry XX12.out hB)
        obtain ⟨p13, p13', p13'', -, -, -⟩ := at_block (carry XX13.out hB)
        obtain ⟨p14, p14', p14'', -, -, -⟩ := at_block (carry XX14.out hB)
        go_simp
      change wpAnyH _ _ _ _ _ _ _ (Act.put _ (some 111) _) _
      try simp only [Act.put, List.setIfInBounds_toArray, List.set_cons_zero, List.set_cons_succ]
      refine wpAnyH_ready (rs := [3]) (by kernel_rfl) (by simp) ?_
      refine AllReadyH.cons rfl (fun K hK => ?_) AllReadyH.nil
      go_simp
      refine (rOne_q _).mono ?_
      rintro e V3 hm3
      obtain ⟨w3', rfl, q3', v3⟩ := hm3.isq
      try go_simp
      refine hK.out _ _ (keepB v3 hH (Nat.le_refl _)) (fun hH3 => ?_)
      clear hK K
      try simp only [Act.put, List.setIfInBounds_toArray, List.set_cons_zero, List.set_cons_succ]
      refine wpAnyH_ready (rs := [4]) (by kernel_rfl) (by simp) ?_
      refine AllReadyH.cons rfl (fun K hK => ?_) AllReadyH.nil
      go_simp
      refine (same_z (IsQ.below QQ11.out hH3) q3' rfl).mono ?_
      rintro e V4 ⟨rfl, v4⟩
      try go_simp
      refine hK.out _ _ (keepB v4 hH3 (Nat.le_refl _)) (fun hH4 => ?_)
      clear hK K
      try simp only [Act.put, List.setIfInBounds_toArray, List.set_cons_zero, List.set_cons_succ]
      refine wpAnyH_take (i := 5) (v := (.bool true)) rfl (by kernel_rfl) (by kernel_rfl) (by kernel_rfl) (fun _ _ _ h => h) (Or.inl ⟨by kernel_rfl, ?_⟩) hH4 ?_
      · intro w1 hB
        go_simp
      change wpAnyH _ _ _ _ _ _ _ (Act.put _ (some 114) _) _
      try simp only [Act.put, List.setIfInBounds_toArray, List.set_cons_zero, List.set_cons_succ]
      refine wpAnyH_take (i := 6) (v := (.bool true)) rfl (by kernel_rfl) (by kernel_rfl) (by kernel_rfl) (fun _ _ _ h => h) (Or.inl ⟨by kernel_rfl, ?_⟩) hH4 ?_
      · intro w1 hB
        go_simp
      change wpAnyH _ _ _ _ _ _ _ (Act.put _ (some 115) _) _
      try simp only [Act.put, List.setIfInBounds_toArray, List.set_cons_zero, List.set_cons_succ]
      refine wpAnyH_take (i := 7) (v := (.agg #[.bool s12, .slice a12 n12 c12, .slice o12 m12 d12])) rfl (by kernel_rfl) (by kernel_rfl) (by kernel_rfl) (fun _ _ _ h => h) (Or.inl ⟨by kernel_rfl, ?_⟩) hH4 ?_
      · intro w1 hB
        obtain ⟨p11, p11', p11'', -, -, -⟩ := at_block (carry XX11.out hB)
        obtain ⟨p12, p12', p12'', -, -, -⟩ := at_block (carry XX12.out hB)
        obtain ⟨p13, p13', p13'', -, -, -⟩ := at_block (carry XX13.out hB)
        obtain ⟨p14, p14', p14'', -, -, -⟩ := at_block (carry XX14.out hB)
        go_simp
      change wpAnyH _ _ _ _ _ _ _ (Act.put _ (some 116) _) _
      try simp only [Act.put, List.setIfInBounds_toArray, List.set_cons_zero, List.set_cons_succ]
      refine wpAnyH_take (i := 8) (v := (.int .i64 (Kf : Int))) rfl (by kernel_rfl) (by kernel_rfl) (by kernel_rfl) (fun _ _ _ h => h) (Or.inl ⟨by kernel_rfl, ?_⟩) hH4 ?_
      · intro w1 hB
        go_simp
      change wpAnyH _ _ _ _ _ _ _ (Act.put _ (some 117) _) _
      try simp only [Act.put, List.setIfInBounds_toArray, List.set_cons_zero, List.set_cons_succ]
      refine wpAnyH_ready (rs := [9]) (by kernel_rfl) (by simp) ?_
      refine AllReadyH.cons rfl (fun K hK => ?_) AllReadyH.nil
      go_simp
      refine (rFromInt_z (Kf : Int) (by have := HK.out; omega) (by have := HK.out; omega) _).mono ?_
      rintro e V9 ⟨w9', rfl, q9', v9⟩
      try go_simp
      refine hK.out _ _ (keepB v9 hH4 (Nat.le_refl _)) (fun hH9 => ?_)
      clear hK K
      try simp only [Act.put, List.setIfInBounds_toArray, List.set_cons_zero, List.set_cons_succ]
      refine wpAnyH_ready (rs := [10]) (by kernel_rfl) (by simp) ?_
      refine AllReadyH.cons rfl (fun K hK => ?_) AllReadyH.nil
      go_simp
      refine (same_z (IsQ.below QQ12.out hH9) q9' HQ2.out).mono ?_
      rintro e V10 ⟨rfl, v10⟩
      try go_simp
      refine hK.out _ _ (keepB v10 hH9 (Nat.le_refl _)) (fun hH10 => ?_)
      clear hK K
      try simp only [Act.put, List.setIfInBounds_toArray, List.set_cons_zero, List.set_cons_succ]
      refine wpAnyH_take (i := 11) (v := (.bool true)) rfl (by kernel_rfl) (by kernel_rfl) (by kernel_rfl) (fun _ _ _ h => h) (Or.inl ⟨by kernel_rfl, ?_⟩) hH10 ?_
      · intro w1 hB
        go_simp
      change wpAnyH _ _ _ _ _ _ _ (Act.put _ (some 120) _) _
      try simp only [Act.put, List.setIfInBounds_toArray, List.set_cons_zero, List.set_cons_succ]
      refine wpAnyH_take (i := 12) (v := (.bool true)) rfl (by kernel_rfl) (by kernel_rfl) (by kernel_rfl) (fun _ _ _ h => h) (Or.inl ⟨by kernel_rfl, ?_⟩) hH10 ?_
      · intro w1 hB
        go_simp
      change wpAnyH _ _ _ _ _ _ _ (Act.put _ (some 121) _) _
      try simp only [Act.put, List.setIfInBounds_toArray, List.set_cons_zero, List.set_cons_succ]
      refine wpAnyH_take (i := 13) (v := (.agg #[.bool s13, .slice a13 n13 c13, .slice o13 m13 d13])) rfl (by kernel_rfl) (by kernel_rfl) (by kernel_rfl) (fun _ _ _ h => h) (Or.inl ⟨by kernel_rfl, ?_⟩) hH10 ?_
      · intro w1 hB
        obtain ⟨p11, p11', p11'', -, -, -⟩ := at_block (carry XX11.out hB)
        obtain ⟨p12, p12', p12'', -, -, -⟩ := at_block (carry XX12.out hB)
        obtain ⟨p13, p13', p13'', -, -, -⟩ := at_block (carry XX13.out hB)
        obtain ⟨p14, p14', p14'', -, -, -⟩ := at_block (carry XX14.out hB)
        go_simp
      change wpAnyH _ _ _ _ _ _ _ (Act.put _ (some 122) _) _
      try simp only [Act.put, List.setIfInBounds_toArray, List.set_cons_zero, List.set_cons_succ]
      refine wpAnyH_take (i := 14) (v := (.agg #[.bool s14, .slice a14 n14 c14, .slice o14 m14 d14])) rfl (by kernel_rfl) (by kernel_rfl) (by kernel_rfl) (fun _ _ _ h => h) (Or.inl ⟨by kernel_rfl, ?_⟩) hH10 ?_
      · intro w1 hB
        obtain ⟨p11, p11', p11'', -, -, -⟩ := at_block (carry XX11.out hB)
        obtain ⟨p12, p12', p12'', -, -, -⟩ := at_block (carry XX12.out hB)
        obtain ⟨p13, p13', p13'', -, -, -⟩ := at_block (carry XX13.out hB)
        obtain ⟨p14, p14', p14'', -, -, -⟩ := at_block (carry XX14.out hB)
        go_simp
      change wpAnyH _ _ _ _ _ _ _ (Act.put _ (some 123) _) _
      try simp only [Act.put, List.setIfInBounds_toArray, List.set_cons_zero, List.set_cons_succ]
      refine wpAnyH_take (i := 16) (v := (.agg #[.bool s12, .slice a12 n12 c12, .slice o12 m12 d12])) rfl (by kernel_rfl) (by kernel_rfl) (by kernel_rfl) (fun _ _ _ h => h) (Or.inl ⟨by kernel_rfl, ?_⟩) hH10 ?_
      · intro w1 hB
        obtain ⟨p11, p11', p11'', -, -, -⟩ := at_block (carry XX11.out hB)
        obtain ⟨p12, p12', p12'', -, -, -⟩ := at_block (carry XX12.out hB)
        obtain ⟨p13, p13', p13'', -, -, -⟩ := at_block (carry XX13.out hB)
        obtain ⟨p14, p14', p14'', -, -, -⟩ := at_block (carry XX14.out hB)
        go_simp
      change wpAnyH _ _ _ _ _ _ _ (Act.put _ (some 125) _) _
      try simp only [Act.put, List.setIfInBounds_toArray, List.set_cons_zero, List.set_cons_succ]
      refine wpAnyH_ready (rs := [15]) (by kernel_rfl) (by simp) ?_
      refine AllReadyH.cons rfl (fun K hK => ?_) AllReadyH.nil
      go_simp
      refine (rMul_i (IsQ.below QQ13.out hH10) (IsQ.below QQ14.out hH10)).mono ?_
      rintro e V15 hm15
      obtain ⟨w15', rfl, q15', v15⟩ := hm15.isq
      try go_simp
      refine hK.out _ _ (keepB v15 hH10 (Nat.le_refl _)) (fun hH15 => ?_)
      clear hK K
      try simp only [Act.put, List.setIfInBounds_toArray, List.set_cons_zero, List.set_cons_succ]
      refine wpAnyH_ready (rs := [17]) (by kernel_rfl) (by simp) ?_
      refine AllReadyH.cons rfl (fun K hK => ?_) AllReadyH.nil
      go_simp
      refine (same_z q15' (IsQ.below QQ12.out hH15) HQ3.out).mono ?_
      rintro e V17 ⟨rfl, v17⟩
      try go_simp
      refine hK.out _ _ (keepB v17 hH15 (Nat.le_refl _)) (fun hH17 => ?_)
      clear hK K
      try simp only [Act.put, List.setIfInBounds_toArray, List.set_cons_zero, List.set_cons_succ]
      refine wpAnyH_take (i := 18) (v := (.bool true)) rfl (by kernel_rfl) (by kernel_rfl) (by kernel_rfl) (fun _ _ _ h => h) (Or.inl ⟨by kernel_rfl, ?_⟩) hH17 ?_
      · intro w1 hB
        go_simp
      change wpAnyH _ _ _ _ _ _ _ (Act.put _ (some 127) _) _
      try simp only [Act.put, List.setIfInBounds_toArray, List.set_cons_zero, List.set_cons_succ]
      refine wpAnyH_take (i := 19) (v := (.bool true)) rfl (by kernel_rfl) (by kernel_rfl) (by kernel_rfl) (fun _ _ _ h => h) (Or.inl ⟨by kernel_rfl, ?_⟩) hH17 ?_
      · intro w1 hB
        go_simp
      change wpAnyH _ _ _ _ _ _ _ (Act.put _ (some 128) _) _
      try simp only [Act.put, List.setIfInBounds_toArray, List.set_cons_zero, List.set_cons_succ]
      refine wpAnyH_ready (rs := [20]) (by kernel_rfl) (by simp) ?_
      refine AllReadyH.cons rfl (fun K hK => ?_) AllReadyH.nil
      go_simp
      refine (awake_v _).mono ?_
      rintro e V20 ⟨rfl, v20⟩
      try go_simp
      refine hK.out _ _ (keepB v20 hH17 (Nat.le_refl _)) (fun hH20 => ?_)
      clear hK K
      try simp only [Act.put, List.setIfInBounds_toArray, List.set_cons_zero, List.set_cons_succ]
      refine wpAnyH_take (i := 21) (v := (.bool true)) rfl (by kernel_rfl) (by kernel_rfl) (by kernel_rfl) (fun _ _ _ h => h) (Or.inl ⟨by kernel_rfl, ?_⟩) hH20 ?_
      · intro w1 hB
        go_simp
      change wpAnyH _ _ _ _ _ _ _ (Act.put _ (some 130) _) _
      try simp only [Act.put, List.setIfInBounds_toArray, List.set_cons_zero, List.set_cons_succ]
      refine wpAnyH_take (i := 22) (v := (.bool true)) rfl (by kernel_rfl) (by kernel_rfl) (by kernel_rfl) (fun _ _ _ h => h) (Or.inl ⟨by kernel_rfl, ?_⟩) hH20 ?_
      · intro w1 hB
        go_simp
      change wpAnyH _ _ _ _ _ _ _ (Act.put _ (some 4) _) _
      try simp only [Act.put, List.setIfInBounds_toArray, List.set_cons_zero, List.set_cons_succ]
      refine wpAnyH_done (by kernel_rfl) ?_ _
      go_wp2_with fail
      go_ret
      exact ⟨rfl, (B10.out.trans (BB14.out.mono B10.out.size)).trans (Below.mono hH20 (Nat.le_trans B10.out.size BB14.out.size))⟩
end Go.Proofs.Ytdcnkebcpaelpaa.T14
