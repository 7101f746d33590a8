/- NaturalDivisors holds for every input: GCD divides both numbers, is a multiple of each common factor, and is the reference's; no condition. -/
import Derived.Test.YtlgcflapgdkghabDoorFacts
import Derived.Test.YtlgcflapgdkghabDoorRDiv3
import Derived.Test.YtlgcflapgdkghabDoorNum4
namespace Go.Proofs.YtlgcflapgdkghabDoor
open Go.RowKit

theorem gcd_dvd_mod {N G : Nat} (h : G ∣ N) : N % G = 0 := Nat.mod_eq_zero_of_dvd h
theorem GCD_numD {ao bo : Option Addr} {n m ca cb N M G : Nat} {w : World} (ha : Num w ao n ca N) (hb : Num w bo m cb M) (hG : Nat.gcd N M = G) : Calls Tryd.prog 6 #[.slice ao n ca, .slice bo m cb] w (Makes G w) := by
  subst hG; exact GCD_num ha hb

set_option maxHeartbeats 20000000 in
set_option maxRecDepth 100000 in
theorem NaturalDivisors_any (ao bo ko : Option Addr) (ca cb ck : Nat) (xs ys ks : List Nat) (w : World) (ha : Rd w ao ca xs) (hb : Rd w bo cb ys) (hk : Rd w ko ck ks) (htab : Tab w) :
    Calls Tryd.prog 3 #[.slice ao xs.length ca, .slice bo ys.length cb, .slice ko ks.length ck] w fun e w' => e = .returned (.bool true) ∧ Below w.heap.size w w' := by
  obtain ⟨u_a, e_a⟩ : ∃ u, u = xs.take 12 := ⟨_, rfl⟩
  obtain ⟨n_a, s_a⟩ := Cut_num ha e_a
  obtain ⟨u_b, e_b⟩ : ∃ u, u = ys.take 12 := ⟨_, rfl⟩
  obtain ⟨n_b, s_b⟩ := Cut_num hb e_b
  obtain ⟨u_k, e_k⟩ : ∃ u, u = ks.take 12 := ⟨_, rfl⟩
  obtain ⟨n_k, s_k⟩ := Cut_num hk e_k
  have E_a := Lib.hid e_a
  have E_b := Lib.hid e_b
  have E_k := Lib.hid e_k
  clear e_a e_b e_k
  obtain ⟨N, hN⟩ : ∃ N, N = val u_a := ⟨_, rfl⟩
  obtain ⟨M, hM⟩ : ∃ M, M = val u_b := ⟨_, rfl⟩
  obtain ⟨K, hK⟩ : ∃ K, K = val u_k := ⟨_, rfl⟩
  rw [← hN] at n_a s_a
  rw [← hM] at n_b s_b
  rw [← hK] at n_k s_k
  clear hN hM hK
  obtain ⟨G, hG⟩ : ∃ G, G = Nat.gcd N M := ⟨_, rfl⟩
  have s_g : Sm G 12 := by
    rcases Nat.eq_zero_or_pos N with e | e
    · rw [hG, e, Nat.gcd_zero_left]; exact s_b
    · rw [hG]; exact Sm.of_le s_a (Nat.gcd_le_left _ e)
  have h1 := Lib.hid (show Nat.gcd N M = G from hG.symm)
  have h2 := Lib.hid (show Nat.gcd M N = G by rw [Nat.gcd_comm]; exact hG.symm)
  have h3 := Lib.hid (show Nat.gcd N 0 = N from Nat.gcd_zero_right N)
  have h4 := Lib.hid (show Nat.gcd (N * K) (M * K) = G * K by rw [hG]; exact Nat.gcd_mul_right _ _ _)
  have h5 := Lib.hid (show N % G = 0 by rw [hG]; exact gcd_dvd_mod (Nat.gcd_dvd_left _ _))
  have h6 := Lib.hid (show M % G = 0 by rw [hG]; exact gcd_dvd_mod (Nat.gcd_dvd_right _ _))
  clear hG
  go_enter Tryd.func3, Tryd.ntmps3
  go_wp2_with fail
  refine (Cut_any _ _ _ u_a _ ha E_a.out).mono ?_; rintro e w' ⟨rfl, rfl⟩
  go_wp2_with fail
  refine (Cut_any _ _ _ u_b _ hb E_b.out).mono ?_; rintro e w' ⟨rfl, rfl⟩
  go_wp2_with fail
  refine (Cut_any _ _ _ u_k _ hk E_k.out).mono ?_; rintro e w' ⟨rfl, rfl⟩
  clear ha hb hk E_a E_b E_k
  go_wp2_with fail
  refine (GCD_numD n_a n_b h1.out).mono ?_; rintro e w1 ⟨a1, c1, rfl, f1, b1⟩
  have B := b1
  replace n_a := n_a.below b1
  replace n_b := n_b.below b1
  replace n_k := n_k.below b1
  go_wp2_with fail
  refine (rGCD_num n_a n_b s_a s_b).mono ?_; rintro e w2 ⟨a2, c2, rfl, f2, b2⟩
  rw [h1.out] at f2 ⊢
  replace n_a := n_a.below b2
  replace n_b := n_b.below b2
  replace n_k := n_k.below b2
  replace B := B.trans (b2.mono B.size)
  replace f1 := f1.below b2
  go_wp2_with fail
  refine (Same_num f1 f2 rfl).mono ?_; rintro e w3 ⟨rfl, b3⟩
  replace n_a := n_a.below b3
  replace n_b := n_b.below b3
  replace n_k := n_k.below b3
  replace B := B.trans (b3.mono B.size)
  replace f1 := f1.below b3
  clear f2
  go_wp2_with fail
  refine (GCD_numD n_b n_a h2.out).mono ?_; rintro e w4 ⟨a4, c4, rfl, f4, b4⟩
  replace n_a := n_a.below b4
  replace n_b := n_b.below b4
  replace n_k := n_k.below b4
  replace B := B.trans (b4.mono B.size)
  replace f1 := f1.below b4
  go_wp2_with fail
  refine (Same_num f4 f1 rfl).mono ?_; rintro e w5 ⟨rfl, b5⟩
  replace n_a := n_a.below b5
  replace n_b := n_b.below b5
  replace n_k := n_k.below b5
  replace B := B.trans (b5.mono B.size)
  replace f1 := f1.below b5
  clear f4
  have n_0 : Num w5 none 0 0 0 := ⟨[], rfl, (Fr.nil 0 w5).rd, rfl, by simp⟩
  go_wp2_with fail
  refine (GCD_numD n_a n_0 h3.out).mono ?_; rintro e w6 ⟨a6, c6, rfl, f6, b6⟩
  replace n_a := n_a.below b6
  replace n_b := n_b.below b6
  replace n_k := n_k.below b6
  replace B := B.trans (b6.mono B.size)
  replace f1 := f1.below b6
  clear n_0
  go_wp2_with fail
  refine (rTrim_num n_a).mono ?_; rintro e w7 ⟨a7, c7, rfl, f7, b7⟩
  replace n_a := n_a.below b7
  replace n_b := n_b.below b7
  replace n_k := n_k.below b7
  replace B := B.trans (b7.mono B.size)
  replace f1 := f1.below b7
  replace f6 := f6.below b7
  go_wp2_with fail
  refine (Same_num f6 f7 rfl).mono ?_; rintro e w8 ⟨rfl, b8⟩
  replace n_a := n_a.below b8
  replace n_b := n_b.below b8
  replace n_k := n_k.below b8
  replace B := B.trans (b8.mono B.size)
  replace f1 := f1.below b8
  clear f6 f7
  have n_g := Num.of_fr f1 s_g
  have ht8 := htab.below B
  clear htab
  rcases Nat.eq_zero_or_pos (dig G).length with h0 | h0
  · have hq0 : (((dig G).length : Nat) : Int) ≤ 0 := by omega
    clear h0 f1
    go_wp2_with fail
    refine (rMul_num n_a n_k).mono ?_; rintro e u1 ⟨p1, q1, rfl, m1, d1⟩
    replace n_b := n_b.below d1
    replace n_k := n_k.below d1
    replace n_g := n_g.below d1
    replace ht8 := ht8.below d1
    replace B := B.trans (d1.mono B.size)
    have x1 := Num.of_fr m1 (s_a.mul s_k (by omega))
    go_wp2_with fail
    refine (rMul_num n_b n_k).mono ?_; rintro e u2 ⟨p2, q2, rfl, m2, d2⟩
    replace n_k := n_k.below d2
    replace n_g := n_g.below d2
    replace x1 := x1.below d2
    replace ht8 := ht8.below d2
    replace B := B.trans (d2.mono B.size)
    have x2 := Num.of_fr m2 (s_b.mul s_k (by omega))
    go_wp2_with fail
    refine (GCD_numD x1 x2 h4.out).mono ?_; rintro e u3 ⟨p3, q3, rfl, m3, d3⟩
    replace n_k := n_k.below d3
    replace n_g := n_g.below d3
    replace ht8 := ht8.below d3
    replace B := B.trans (d3.mono B.size)
    go_wp2_with fail
    refine (rMul_num n_g n_k).mono ?_; rintro e u4 ⟨p4, q4, rfl, m4, d4⟩
    replace m3 := m3.below d4
    replace ht8 := ht8.below d4
    replace B := B.trans (d4.mono B.size)
    go_wp2_with fail
    refine (Same_num m3 m4 rfl).mono ?_; rintro e u5 ⟨rfl, d5⟩
    replace ht8 := ht8.below d5
    replace B := B.trans (d5.mono B.size)
    go_wp2_with fail
    refine (awake_any _ ht8).mono ?_; rintro e u6 ⟨rfl, d6⟩
    go_wp2_with fail
    go_ret
    exact ⟨rfl, B.trans (d6.mono B.size)⟩
  · have hgp := Lib.hid (pos_of_len h0)
    clear f1
    go_wp2_with fail
    refine (rDivide_numD n_a n_g hgp.out rfl h5.out).mono ?_; rintro e w9 ⟨qo, qc, ro, rc, rfl, fq, fr, b9⟩
    rw [dig0]
    replace n_a := n_a.below b9
    replace n_b := n_b.below b9
    replace n_k := n_k.below b9
    replace n_g := n_g.below b9
    replace B := B.trans (b9.mono B.size)
    replace ht8 := ht8.below b9
    go_wp2_with fail
    refine (rDivide_numD n_b n_g hgp.out rfl h6.out).mono ?_; rintro e w10 ⟨qo2, qc2, ro2, rc2, rfl, fq2, fr2, b10⟩
    rw [dig0]
    replace n_a := n_a.below b10
    replace n_b := n_b.below b10
    replace n_k := n_k.below b10
    replace n_g := n_g.below b10
    replace B := B.trans (b10.mono B.size)
    replace ht8 := ht8.below b10
    clear fq fr fq2 fr2
    go_wp2_with fail
    refine (rMul_num n_a n_k).mono ?_; rintro e u1 ⟨p1, q1, rfl, m1, d1⟩
    replace n_b := n_b.below d1
    replace n_k := n_k.below d1
    replace n_g := n_g.below d1
    replace ht8 := ht8.below d1
    replace B := B.trans (d1.mono B.size)
    have x1 := Num.of_fr m1 (s_a.mul s_k (by omega))
    go_wp2_with fail
    refine (rMul_num n_b n_k).mono ?_; rintro e u2 ⟨p2, q2, rfl, m2, d2⟩
    replace n_k := n_k.below d2
    replace n_g := n_g.below d2
    replace x1 := x1.below d2
    replace ht8 := ht8.below d2
    replace B := B.trans (d2.mono B.size)
    have x2 := Num.of_fr m2 (s_b.mul s_k (by omega))
    go_wp2_with fail
    refine (GCD_numD x1 x2 h4.out).mono ?_; rintro e u3 ⟨p3, q3, rfl, m3, d3⟩
    replace n_k := n_k.below d3
    replace n_g := n_g.below d3
    replace ht8 := ht8.below d3
    replace B := B.trans (d3.mono B.size)
    go_wp2_with fail
    refine (rMul_num n_g n_k).mono ?_; rintro e u4 ⟨p4, q4, rfl, m4, d4⟩
    replace m3 := m3.below d4
    replace ht8 := ht8.below d4
    replace B := B.trans (d4.mono B.size)
    go_wp2_with fail
    refine (Same_num m3 m4 rfl).mono ?_; rintro e u5 ⟨rfl, d5⟩
    replace ht8 := ht8.below d5
    replace B := B.trans (d5.mono B.size)
    go_wp2_with fail
    refine (awake_any _ ht8).mono ?_; rintro e u6 ⟨rfl, d6⟩
    go_wp2_with fail
    go_ret
    exact ⟨rfl, B.trans (d6.mono B.size)⟩
end Go.Proofs.YtlgcflapgdkghabDoor
namespace Go.Proofs.YtlgcflapgdkghabDoor.lawDivisors
open Go.ChangeShapes Go.WideShapes Go.ChangeAt Go.RowKit

set_option maxRecDepth 100000 in
set_option maxHeartbeats 1000000 in
theorem contract (H : Type) (enc : TypeId × Value → H) (W : World) (base : Nat) (args : Array Value) (ds gs : List (DataW H)) (before : List MemPlace)
    (hval : ∀ (j : Nat) t v, Tryd.f3.params[j]? = some t → args[j]? = some v → Value.okWide Tryd.prog W .any base t v)
    (hW : DataW.Whole enc Tryd.prog Tryd.f3.params.toList Rows.naturalDivisorsSpec.vars false W args.toList ds gs before) (hL : laidMetH Tryd.prog Rows.naturalDivisorsRow.laid W) :
    Calls Tryd.prog 3 args W fun e W' => ∃ v, e = .returned v ∧ Rows.naturalDivisorsSpec.post enc Tryd.prog Tryd.f3 false true false false W args v W' := by
  have hW' := hW
  obtain ⟨p, q, hA0, _, _, _, _⟩ := hW
  have hA : DataW.TrodAll enc Tryd.prog W 0 (fun _ => true) true Tryd.f3.params.toList args.toList ds p := hA0
  rw [Tryd.params3] at hA hval
  obtain ⟨v0, vs0, d0, ds0, p0, q0, hargs, rfl, rfl, h0, r0⟩ := trodAll_cons hA
  obtain ⟨v1, vs1, d1, ds1, p1, q1, rfl, rfl, rfl, h1, r1⟩ := trodAll_cons r0
  obtain ⟨v2, vs2, d2, ds2, p2, q2, rfl, rfl, rfl, h2, r2⟩ := trodAll_cons r1
  obtain ⟨rfl, rfl, rfl⟩ := trodAll_nil r2
  obtain rfl : args = #[v0, v1, v2] := by cases args; simp_all
  obtain ⟨ao0, xs0, cap0, rfl, hr0⟩ := nat_open (hval 0 23 v0 rfl rfl) h0
  obtain ⟨ao1, xs1, cap1, rfl, hr1⟩ := nat_open (hval 1 23 v1 rfl rfl) h1
  obtain ⟨ao2, xs2, cap2, rfl, hr2⟩ := nat_open (hval 2 23 v2 rfl rfl) h2
  refine (NaturalDivisors_any ao0 ao1 ao2 cap0 cap1 cap2 xs0 xs1 xs2 W hr0 hr1 hr2  (tab_of hL)).mono ?_
  rintro e W' ⟨rfl, hb⟩
  exact ⟨_, rfl, law_post hW' rfl rfl rfl (by rw [Tryd.params3]; exact facts.readable_of (by decide)) hb⟩

theorem laid_met (os : Os) : laidMet Tryd.prog Rows.naturalDivisorsRow.laid ((laidWorld os).forCall (fun _ _ => 0) ⟨#[], #[.slice none 0 0, .slice none 0 0, .slice none 0 0], []⟩).memory :=
  laidMet_of_run' 8 (by kernel_rfl) (by kernel_rfl)
theorem reads (os : Os) {H : Type} (enc : TypeId × Value → H) : ∃ places, DataW.whole enc Tryd.prog ((laidWorld os).forCall (fun _ _ => 0) ⟨#[], #[.slice none 0 0, .slice none 0 0, .slice none 0 0], []⟩).memory Tryd.f3.params.toList Rows.naturalDivisorsSpec.vars false #[Value.slice none 0 0, .slice none 0 0, .slice none 0 0].toList 8 = some ([.nil, .nil, .nil], [], places) :=
  ⟨[], by kernel_rfl⟩

set_option maxRecDepth 100000 in
set_option maxHeartbeats 2000000 in
theorem lifted (os : Os) (started : os.Started) (H : Type) (enc : TypeId × Value → H) (F : Stop.Interp) :
    ReturnsInHanded {} Tryd.checked os 3 .any ((OpenSpec.ofChange Rows.naturalDivisorsSpec).preRow enc Tryd.prog Tryd.f3 Rows.naturalDivisorsRow.domain false Rows.naturalDivisorsRow.laid) (((OpenSpec.ofChange Rows.naturalDivisorsSpec).at F).post enc Tryd.prog Tryd.f3 false true false false) := by
  obtain ⟨places, hx⟩ := reads os enc
  refine returnsInHanded_of_row (C := Tryd.checked) (s := OpenSpec.ofChange Rows.naturalDivisorsSpec) fr_own started (by kernel_rfl) Tryd.func3
    (witness_row_at (enc := enc) (C := Tryd.checked) false (laidWorld os) #[.slice none 0 0, .slice none 0 0, .slice none 0 0] rfl (by kernel_rfl) (by kernel_rfl) (by kernel_rfl)
      (OpenSpec.preRow_of_cond 8 hx (by kernel_rfl) (fun k hk => by cases hk) (by kernel_rfl) (laid_met os))) ?_
  intro W base args ds gs before hval hW _ _ _ hL _ _
  exact contract H enc W base args ds gs before hval hW hL

set_option maxHeartbeats 8000000 in
theorem closed : joinedFacts Tryd.prog 3 Tryd.f3 Rows.naturalDivisorsSpec Rows.naturalDivisorsRow = true := by
  unfold joinedFacts
  repeat' (with_reducible refine facts.and_mk ?_ ?_)
  all_goals first
    | (with_reducible exact facts.laidOut) | (with_reducible exact facts.rowed) | (with_reducible exact facts.stops) | (with_reducible exact facts.stopKnobs) | (with_reducible exact facts.stopsHeard) | (with_reducible exact facts.mayEnter)
    | ((with_reducible refine facts.plainKeys_of ?_); rfl) | ((with_reducible refine facts.lifted_of ?_); rfl) | ((with_reducible refine facts.make_of ?_); rfl)
    | (as_aux_lemma => kernel_rfl)

set_option maxRecDepth 100000 in
theorem said : Rows.NaturalDivisorsSaid :=
  OpenClaim.holds_of_cond 3 Tryd.f3 rfl rfl rfl rfl rfl rfl rfl ⟨rfl, rfl, rfl, rfl, rfl⟩ rfl rfl rfl rfl rfl (by kernel_rfl) Tryd.func3 closed
    (of_decide_eq_true (by kernel_rfl)) (by unfold Func.isWrapper; first | (rw [if_pos (by decide +kernel)]; kernel_rfl) | (rw [if_neg (by decide +kernel)]; exact ⟨rfl, rfl⟩))
    (fun os started H enc _ F => by rw [OpenClaim.pre_eq_preRow]; exact lifted os started H enc F)

theorem plain (f : FuncId) (fn : Func) (hf : Tryd.pinned.checked.prog.funcNamed "priceoffice/priceofficelaw01.NaturalDivisors" = some f) (hfn : Tryd.pinned.checked.prog.funcs[f]? = some fn) :
    false = Tryd.pinned.checked.prog.looks [] ∧ ∀ (j : Nat) t, fn.params[j]? = some t → Tryd.pinned.checked.prog.wantsStandIn t = false := by
  obtain rfl : f = 3 := Option.some.inj ((show Tryd.prog.funcNamed "priceoffice/priceofficelaw01.NaturalDivisors" = some 3 by kernel_rfl).symm.trans hf) |>.symm
  obtain rfl : fn = Tryd.f3 := (Option.some.inj (Tryd.func3.symm.trans hfn)).symm
  refine ⟨facts.looks, fun j t ht => ?_⟩
  rw [Tryd.params3] at ht
  exact facts.standIn_of (by decide) j t ht

theorem card : Rows.NaturalDivisorsCardSaid :=
  Claim7.holds_tied_plain_at .later [] _ _ _ _ said (fun _ h => by cases h) (by kernel_rfl) (fun _ h => by cases h) naturalDivisors_row_tie rfl ⟨rfl, rfl⟩ facts.mainIs rfl plain (by kernel_rfl)
end Go.Proofs.YtlgcflapgdkghabDoor.lawDivisors
