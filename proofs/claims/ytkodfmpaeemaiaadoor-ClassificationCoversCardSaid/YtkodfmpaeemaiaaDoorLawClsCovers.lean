import Derived.Test.YtkodfmpaeemaiaaDoorCls27
import Derived.Test.YtkodfmpaeemaiaaDoorCls30
import Derived.Deep.RegionHeld3
/- ClassificationCovers for all inputs: Cover of any classification, string and list, and of made ones, answers as the reference. -/
namespace Go.Proofs.YtkodfmpaeemaiaaDoor.C6
open Go.RowKit Go.Sort

theorem field1_v (s : ByteArray) (a : Option Addr) (n c : Nat) (w : World) : (Instr.field 24 (.agg #[.string s, .slice a n c]) 1).run Tryd.prog w = .ok (.slice a n c) w := by kernel_rfl

set_option maxHeartbeats 16000000 in
set_option maxRecDepth 100000 in
theorem ClassificationCovers_any (nm : ByteArray) (co : Option Addr) (cs : List ByteArray) (cc : Nat) (s : ByteArray) (lo : Option Addr) (ls : List ByteArray) (lc : Nat) (ao : Option Addr) (ts : List Int) (cap : Nat) (w : World) (hc : RdS w co cc cs) (hcs : ∀ s ∈ cs, s.size ≤ 9223372036854775807) (hs : s.size ≤ 9223372036854775807)
    (hls : RdS w lo lc ls) (hlss : ∀ s ∈ ls, s.size ≤ 9223372036854775807) (hr : RdZ w ao cap ts) (hev : ErrV w) :
    Calls Tryd.prog 6 #[.agg #[.string nm, .slice co cs.length cc], .string s, .slice lo ls.length lc, .slice ao ts.length cap] w fun e w' => e = .returned (.bool true) ∧ Below w.heap.size w w' := by
  obtain ⟨i0, hi, hz0, hz1, hz2⟩ := info_parts infoStr
  obtain ⟨q, hq⟩ : ∃ q : Nat, min ((s.size : Nat) : Int) 20 = (q : Int) := ⟨(min ((s.size : Nat) : Int) 20).toNat, by omega⟩
  have hqs : q ≤ s.size := by omega
  have hqI : (q : Int) ≤ (s.size : Int) := by omega
  have b1 := below_new w (.cells #[.string nm, .slice co cs.length cc] 24)
  have k1 := Bxn.new w nm (.slice co cs.length cc)
  obtain ⟨W1, hW1⟩ : ∃ W1, W1 = w.alloc (.cells #[.string nm, .slice co cs.length cc] 24) := ⟨_, rfl⟩
  rw [← hW1] at b1 k1
  have hs1 : W1.heap.size = w.heap.size + 1 := by rw [hW1]; simp
  have b2 := below_new W1 (.cells #[.slice ao ts.length cap, .int .i64 0] 29)
  have hT := Tap.new W1 ao ts.length cap
  have k2 := k1.below b2
  obtain ⟨W2, hW2⟩ : ∃ W2, W2 = W1.alloc (.cells #[.slice ao ts.length cap, .int .i64 0] 29) := ⟨_, rfl⟩
  rw [← hW2] at b2 hT k2
  have hs2 : W2.heap.size = w.heap.size + 2 := by rw [hW2, World.size_alloc, hs1]
  have b12 : Below w.heap.size w W2 := keep b1 b2
  obtain ⟨G, hG⟩ : ∃ G, G = w.heap.size := ⟨_, rfl⟩
  rw [hs1, ← hG] at hT
  rw [← hG] at k2
  have HTB : Hid (0 < (intz ts).length → ∀ b o, ao = some ⟨b, o, none⟩ → b < G) := by unfold Hid; rw [hG]; exact hr.lt
  have HR := Lib.hid hr
  have HTr := Lib.hid (Tree_v (G + 1) ao cap ts 0 W2 hT (hr.below b12) (fun h0 b o e => Nat.lt_succ_of_lt (HTB.out h0 b o e)) (by omega))
  have HB12 := Lib.hid b12
  have HC := Lib.hid hc
  have HLS := Lib.hid hls
  have HE := Lib.hid hev
  have HK2 := Lib.hid k2
  have HG : Hid (G = w.heap.size ∧ W2.heap.size = G + 2) := ⟨hG, by omega⟩
  obtain ⟨cn, hcn⟩ : ∃ n, n = cs.length := ⟨_, rfl⟩
  obtain ⟨lsn, hlsn⟩ : ∃ n, n = ls.length := ⟨_, rfl⟩
  rw [← hcn] at hW1 HK2 ⊢
  rw [← hlsn]
  obtain ⟨R, hRe⟩ : ∃ R, R = rawl cs := ⟨_, rfl⟩
  obtain ⟨rn, hrn⟩ : ∃ n, n = R.length := ⟨_, rfl⟩
  have HRsz : Hid (∀ s ∈ R, s.size ≤ 1000) := by unfold Hid; rw [hRe]; exact rawl_sz cs
  have HRl : Hid (R.length ≤ 30) := by unfold Hid; rw [hRe]; exact rawl_ln cs
  have hRaw : ∀ w', RdS w' co cc cs → Calls Tryd.prog 8 #[.agg #[.string nm, .slice co cn cc]] w' fun e w2 => ∃ ao' cap', e = .returned (.agg #[.string nm, .slice ao' rn cap']) ∧ RdS w2 ao' cap' R ∧ Below w'.heap.size w' w2 ∧ (0 < (strs R).length → ∀ b o, ao' = some ⟨b, o, none⟩ → w'.heap.size ≤ b) := fun w' h => by
    rw [hrn, hRe, hcn]
    exact raw_v nm co cc cs w' h hcs
  have HRW := Lib.hid hRaw
  have HRN := Lib.hid hrn
  obtain ⟨R2, hR2e⟩ : ∃ R, R = rawl ls := ⟨_, rfl⟩
  obtain ⟨rn2, hrn2⟩ : ∃ n, n = R2.length := ⟨_, rfl⟩
  have HR2sz : Hid (∀ s ∈ R2, s.size ≤ 1000) := by unfold Hid; rw [hR2e]; exact rawl_sz ls
  have HR2l : Hid (R2.length ≤ 30) := by unfold Hid; rw [hR2e]; exact rawl_ln ls
  have hRaw2 : ∀ w', RdS w' lo lc ls → Calls Tryd.prog 8 #[.agg #[.string ⟨#[]⟩, .slice lo lsn lc]] w' fun e w2 => ∃ ao' cap', e = .returned (.agg #[.string ⟨#[]⟩, .slice ao' rn2 cap']) ∧ RdS w2 ao' cap' R2 ∧ Below w'.heap.size w' w2 := fun w' h => by
    rw [hrn2, hR2e, hlsn]
    exact (raw_v ⟨#[]⟩ lo lc ls w' h hlss).mono fun e w2 ⟨a, c, h1, h2, h3, _⟩ => ⟨a, c, h1, h2, h3⟩
  have HRW2 := Lib.hid hRaw2
  have HRN2 := Lib.hid hrn2
  have hNx : ∀ w' j, Tap w' (G + 1) ao ts.length cap j → w.grownBy w' (some (G + 1)) → j ≤ 900 → ∀ m : Nat, 1 ≤ m → m ≤ 1000 → ∀ q : Int, q = m → Calls Tryd.prog 19 #[.pointer (some ⟨G + 1, 0, none⟩), .int .i64 q] w' fun e w2 => ∃ r : Nat, e = .returned (.int .i64 (r : Int)) ∧ r < m ∧ w'.grownBy w2 (some (G + 1)) ∧ Tap w2 (G + 1) ao ts.length cap (j + 1) := fun w' j ht hg hj m hm1 hm2 q hq =>
    (Next_v (G + 1) ao cap ts j m w' ht (HR.out.gbne (fun h0 b o e => by have := HTB.out h0 b o e; omega) hg) (by omega) hm1 (by omega) q hq).mono fun e w2 ⟨r, he, hr, h1, _, h2⟩ => ⟨r, he, hr, h1, h2⟩
  have NX := Lib.hid hNx
  obtain ⟨tn, htn⟩ : ∃ n, n = ts.length := ⟨_, rfl⟩
  rw [← htn] at HTr NX hW2 ⊢
  clear b1 k1 b2 hT k2 b12 hc hcs hls hlss hr hev hs1 hs2 htn hcn hlsn hRaw hRe hrn hRaw2 hR2e hrn2 hNx HR HTB
  go_enter Tryd.func6, Tryd.ntmps6
  go_wp2_with fail
  rw [← hW1, ← hW2, ← hG]
  clear hW1 hW2 hG
  refine HTr.out.mono ?_; rintro e w3 ⟨l, a, c, rfl, hrow, hvl, hl1, hl10, hg3, j3, hj3, ht3⟩
  obtain ⟨a', c', e4, hrd, hge⟩ := RdV.of_row hrow
  rw [strs_length] at e4
  cases e4
  obtain ⟨b, o, rfl, _⟩ := (show RdS w3 a c l from hrd).atS (i := 0) (by omega)
  obtain rfl : o = 0 := by
    rcases hrow.2 with ⟨h0, _⟩ | ⟨g0, cap0, cur0, h0, _⟩
    · cases h0
    · cases h0; rfl
  have hbl := hrow.lt b rfl
  have k3 := HK2.out.grown hg3 (fun e => by have := Option.some.inj e; omega)
  have hb3 : Below w.heap.size w w3 := HB12.out.grown hg3 HB12.out.size (fun k e => by have := Option.some.inj e; have := HG.out; omega)
  have hs3 : G + 2 ≤ w3.heap.size := by have := hg3.size; have := HG.out; omega
  have kd := Bxn.new w3 ⟨#[99]⟩ (.slice (some ⟨b, 0, none⟩) l.length c)
  have b4 := below_new w3 (.cells #[.string ⟨#[99]⟩, .slice (some ⟨b, 0, none⟩) l.length c] 24)
  obtain ⟨W4, hW4⟩ : ∃ W4, W4 = w3.alloc (.cells #[.string ⟨#[99]⟩, .slice (some ⟨b, 0, none⟩) l.length c] 24) := ⟨_, rfl⟩
  rw [← hW4] at kd b4
  have hs4 : W4.heap.size = w3.heap.size + 1 := by rw [hW4]; simp
  have k4 := k3.below b4
  have t4 := ht3.keep b4
  have hrow4 := own_below hrow b4
  have hb4 := keep hb3 b4
  have hOW := World.ownsRow_lit (base := W4.heap.size) (e := 9) (size := 1) W4 #[.string ⟨#[]⟩] 1 (Nat.le_refl _) (by unfold maxLen; omega) rfl
  have hA : Below W4.heap.size W4 (W4.alloc (.cells #[.string ⟨#[]⟩] 9)).drew := ((Below.refl _ _).alloc (Nat.le_refl _) _).drew
  have hnews : ∀ k u, (strs l)[k]? = some u → ((W4.alloc (.cells #[.string ⟨#[]⟩] 9)).drew).cell? ((⟨b, 0, none⟩ : Addr).add k) = some u := fun k u hu => by
    rw [show (⟨b, 0, none⟩ : Addr).add k = ⟨b, k, none⟩ by cases k <;> simp [Addr.add]]
    exact ((own_below hrow4 hA).cellAt k (by have := (List.getElem?_eq_some_iff.1 hu).1; rw [strs_length] at this; omega)).trans hu
  have K : Hid (∀ w', W4.grownBy w' (some (G + 1)) → w'.cell? ⟨w3.heap.size, 1, none⟩ = some (.slice (some ⟨b, 0, none⟩) l.length c) ∧ W4.grownBy w' (some (G + 1))) := fun w' hb => ⟨(kd.grown hb (fun e => by have := Option.some.inj e; omega)).c1, hb⟩
  have HVL := Lib.hid hvl
  have K4 := Lib.hid k4
  have KD4 := Lib.hid kd
  have T4 := Lib.hid t4
  have HROW4 := Lib.hid hrow4
  have HB4 := Lib.hid hb4
  have HOW := Lib.hid hOW
  have HA := Lib.hid hA
  have HNEWS := Lib.hid hnews
  have hcl : l.length ≤ c := by have := hrd.1; rw [strs_length] at this; omega
  have hcl2 : c ≤ 9223372036854775807 := hrd.2.1
  have HS4 : Hid (W4.heap.size = w3.heap.size + 1 ∧ G + 2 ≤ b ∧ b < w3.heap.size ∧ G + 2 ≤ w3.heap.size) := ⟨hs4, by have := HG.out; omega, hbl.2, hs3⟩
  have HON : Hid (∀ ls : List ByteArray, ∀ u ∈ strs ls, u.oneCell' = true) := fun ls u hu => by
    obtain ⟨s, _, rfl⟩ := List.mem_map.1 hu
    rfl
  obtain ⟨N', hN'⟩ : ∃ n, 1 + l.length = n := ⟨_, rfl⟩
  have hl63 : IntKind.i64.wrap ((l.length : Int) + 1) = (l.length : Int) + 1 := IntWalk.i64_in _ (by omega)
  have HU : Hid (∀ r, r < l.length + 1 → ∃ u, ((#[Value.string ⟨#[]⟩] : Array Value).toList ++ strs l)[r]? = some (.string u) ∧ (u = emp ∨ u ∈ l)) := fun r hr => by
    rw [show (#[Value.string ⟨#[]⟩] : Array Value).toList ++ strs l = strs (emp :: l) from rfl]
    have hr2 : r < (emp :: l).length := by rw [List.length_cons]; exact hr
    refine ⟨(emp :: l)[r], ?_, List.mem_cons.1 (List.getElem_mem hr2)⟩
    unfold strs
    rw [List.getElem?_map, List.getElem?_eq_getElem hr2]
    rfl
  clear hrow hvl hg3 ht3 hrd hge hbl k3 hb3 hs3 kd b4 k4 t4 hrow4 hb4 hOW hA hnews hs4
  go_upto_region 3 with fail
  rw [← hW4]
  clear hW4
  go_cut [11] from 15 (fun v11 wx => ∃ u : ByteArray, v11 = .string u ∧ Hid (u = emp ∨ u ∈ l) ∧ Hid (W4.grownBy wx (some (G + 1))) ∧ Hid (Tap wx (G + 1) ao tn cap (j3 + 1)))
  case first =>
    have q1 := (K.out _ (below_gb (Below.refl W4.heap.size W4) _)).1
    have qA := (K.out _ (below_gb HA.out _)).1
    have qA2 := (K.out _ (below_gb (below_new W4 (.cells #[.string ⟨#[]⟩] 9)) _)).1
    go_region_law (first
      | (refine step_append_own rfl (.tmp 20) (.tmp 22) 22 rfl W4.heap.size 9 i0 (.string ByteArray.empty) 1 16 Tryd.underlying22 hi hz0 hz1 hz2 rfl (by decide) (.slice (some ⟨W4.heap.size, 0, none⟩) 1 1) 1 _ (by simp [Act.eval, Act.put]) HOW.out ⟨b, 0, none⟩ l.length c (strs l) (by simp [Act.eval, Act.put]) (by rw [strs_length]; omega) HNEWS.out (HON.out _) (by unfold maxLen; omega) (by omega) HA.out.size ?_; intro v7 w7 hown7 hgr7 hnil7; obtain ⟨b7, c7, rfl, hown8, hb7⟩ := of_row_some hown7 (fun e => by have h1 := (hnil7.1 e).1; cases h1) hN'; have BW7 : Below W4.heap.size W4 w7 := HA.out.grown hgr7 HA.out.size (fun k e => (HOW.out.lt k e).1); have q7 := (K.out _ (below_gb BW7 _)).1)
      | (go_simp; (go_at_call 19; refine (NX.out w7 j3 (T4.out.keep BW7) (below_gb (keep HB4.out BW7) _) (by omega) (l.length + 1) (by omega) (by omega) _ rfl).mono ?_; rintro e w8 ⟨r, rfl, hr, hg8, ht8⟩; have GB8 : W4.grownBy w8 (some (G + 1)) := gb_trans (below_gb BW7 _) hg8; have hrI : (r : Int) < (N' : Int) := (by omega); have hr0 : (0 : Int) ≤ (r : Int) := (by omega); have ho8 := hown8.kept hg8 (.inr (fun e => by have h1 : b7 = G + 1 := Option.some.inj e; have := HS4.out; omega)); have hrn : r < N' := (by omega); obtain ⟨u, hu, hum⟩ := HU.out r (by omega); have q8 := (ho8.cellAt r (by omega)).trans hu)))
    all_goals
      go_wp2_with fail
      go_meet
      exact ⟨u, rfl, hum, GB8, ht8⟩
  case rest =>
    obtain ⟨u, rfl, hu, hg8, ht8⟩ := hcut
    have kdc := KD4.out.grown hg8.out (fun e => by have := Option.some.inj e; have := HS4.out; omega)
    have kc := K4.out.grown hg8.out (fun e => by have := Option.some.inj e; omega)
    have rowc := HROW4.out.kept hg8.out (.inr (fun e => by have h1 : b = G + 1 := Option.some.inj e; have := HS4.out; omega))
    have hbc : Below w.heap.size w wc := HB4.out.grown hg8.out HB4.out.size (fun k e => by have := Option.some.inj e; have := HG.out; omega)
    have hlc : RdS wc (some ⟨b, 0, none⟩) c l := by
      obtain ⟨a', c', e', hrd', _⟩ := RdV.of_row rowc
      rw [strs_length] at e'
      obtain ⟨rfl, rfl⟩ : a' = some ⟨b, 0, none⟩ ∧ c' = c := by injection e' with h1 _ h3; exact ⟨h1.symm, h3.symm⟩
      exact hrd'
    have hsc : w3.heap.size + 1 ≤ wc.heap.size := by have := hg8.out.size; have := HS4.out; omega
    have q1 := kdc.c1
    have KDC := Lib.hid kdc
    have KC := Lib.hid kc
    have HBC := Lib.hid hbc
    have HLC := Lib.hid hlc
    have HSC : Hid (w3.heap.size + 1 ≤ wc.heap.size ∧ G + 2 ≤ b ∧ b < w3.heap.size ∧ G + 2 ≤ w3.heap.size) := ⟨hsc, HS4.out.2.1, HS4.out.2.2.1, HS4.out.2.2.2⟩
    clear kdc kc rowc hbc hlc hsc HNEWS HU HOW HA K KD4 K4 HROW4 HB4 T4 hN'
    go_wp2_with fail
    clear q1
    go_loopw [12, 35] (fun s12 s35 wr => ∃ (i j : Nat) (v : Value) (ks : List ByteArray), i ≤ l.length ∧ ks.length ≤ i ∧ j ≤ 15 + i ∧ s35 = .int .i64 (i : Int) ∧ v = s12 ∧ Hid (∀ s ∈ ks, s.size ≤ 1000) ∧ Hid (wr.ownsRow wc.heap.size 9 1 v ks.length (strs ks)) ∧ Hid (Tap wr (G + 1) ao tn cap j) ∧ Hid (wc.grownBy wr (some (G + 1)))) (fun _ s35 _ => l.length - (intOf s35).toNat)
    case atStart => exact ⟨0, j3 + 1, _, [], by omega, by simp, by omega, rfl, rfl, fun s hs => by simp at hs, World.ownsRow_nil _ _ _ _, ht8, below_gb (Below.refl _ _) _⟩
    case round =>
      obtain ⟨i, j, v, ks, hil, hki, hji, rfl, rfl, hks, hown, htp, hgr⟩ := hrel
      have hbw : Below w.heap.size w wr := HBC.out.grown hgr.out HBC.out.size (fun k e => by have := Option.some.inj e; have := HG.out; omega)
      have hlw : RdS wr (some ⟨b, 0, none⟩) c l := HLC.out.gbne (fun _ b' o' e => by cases e; have := HSC.out; omega) hgr.out
      have HBW := Lib.hid hbw
      have HLW := Lib.hid hlw
      have hGc : G + 1 < wc.heap.size := by have := HSC.out; omega
      have hwcw : wc.heap.size ≤ wr.heap.size := hgr.out.size
      clear hbw hlw
      by_cases hlt : i < l.length
      · have hlt2 : (i : Int) < (l.length : Int) := by omega
        obtain ⟨b11, o11, e11, hx⟩ := HLW.out.atS (i := i) hlt
        obtain ⟨rfl, rfl⟩ : b11 = b ∧ o11 = 0 := by cases e11; exact ⟨rfl, rfl⟩
        clear e11
        rw [Nat.zero_add] at hx
        obtain ⟨x, hxe⟩ : ∃ x, x = l.getD i ByteArray.empty := ⟨_, rfl⟩
        have hxs : x.size ≤ 1000 := HVL.out.sizes x (by rw [hxe]; simp [List.getD, hlt])
        rw [← hxe] at hx
        have hNX := NX.out wr j htp.out (below_gb HBW.out _) (by omega) 2 (by omega) (by omega) 2 rfl
        have HNX := Lib.hid hNX
        clear hxe hNX
        go_wp2_with fail
        refine HNX.out.mono ?_; rintro e w9 ⟨r, rfl, hr, hg9, ht9⟩
        have HO9 := Lib.hid (hown.out.kept hg9 (row_block hown.out hGc))
        have HG9 := Lib.hid (gb_trans hgr.out hg9)
        have HT9 := Lib.hid ht9
        have hw9 : wc.heap.size ≤ w9.heap.size := HG9.out.size
        clear hg9 ht9
        by_cases hr0 : r = 0
        · subst hr0
          go_wp2_with (at_builtin; refine wpList_append_own _ rfl _ _ 22 rfl wc.heap.size 9 i0 (.string ByteArray.empty) 1 16 Tryd.underlying22 hi hz0 hz1 hz2 rfl (by omega) _ _ _ rfl (HO9.out.alloc _) ⟨w9.heap.size, 0, none⟩ 1 1 [.string x] rfl rfl (one_cell _ _ _) (HON.out [x]) (by unfold maxLen; omega) (by omega) (by simp; omega) ?_; intro v10 w10 hown10 hgr10 _)
          have hrows : ∀ k, v.ownBlock = some k → wc.heap.size ≤ k := fun k e => (HO9.out.lt k e).1
          have HG10 := Lib.hid (gb_app HG9.out hgr10 (fun k hk e => by have := hrows k e.symm; omega))
          have HT10 := Lib.hid ((HT9.out.alloc (.cells #[.string x] 9)).grown hgr10 (fun e => by have := hrows _ e.symm; omega))
          have HO10 : Hid (w10.ownsRow wc.heap.size 9 1 v10 (ks ++ [x]).length (strs (ks ++ [x]))) := by
            unfold Hid
            rw [List.length_append, List.length_singleton, show strs (ks ++ [x]) = strs ks ++ [.string x] by simp [strs]]
            exact hown10
          have HKS : Hid (∀ s ∈ ks ++ [x], s.size ≤ 1000) := fun s hs => (List.mem_append.1 hs).elim (hks.out s) (fun h => by rw [List.mem_singleton.1 h]; exact hxs)
          clear hown10 hgr10 hrows
          go_wp2_with fail
          go_roundw
          case rel => exact ⟨i + 1, j + 1, v10, ks ++ [x], by omega, by simp; omega, by omega, by go_num, rfl, HKS, HO10, HT10, HG10⟩
          case measure => simp [intOf]; omega
        · have hr0I : ((r : Int) == 0) = false := beq_eq_false_iff_ne.2 (by omega)
          go_wp2_with fail
          go_roundw
          case rel => exact ⟨i + 1, j + 1, v, ks, by omega, by omega, by omega, by go_num, rfl, hks, HO9, HT9, HG9⟩
          case measure => simp [intOf]; omega
      · obtain rfl : i = l.length := by omega
        have hlt2 : ¬ (l.length : Int) < (l.length : Int) := by omega
        obtain ⟨av, cv, e6, hrk, _⟩ := RdV.of_row hown.out
        rw [strs_length] at e6
        subst e6
        have hkw := KC.out.grown hgr.out (fun e => by have := Option.some.inj e; omega)
        have hkd := KDC.out.grown hgr.out (fun e => by have := Option.some.inj e; have := HSC.out; omega)
        have q0 := hkw.c0
        have q1 := hkw.c1
        have HKW := Lib.hid hkw
        have HKD := Lib.hid hkd
        clear hrk hkw hkd
        go_wp2_with fail
        clear q0 q1
        refine (HRW.out wr (HC.out.below HBW.out)).mono ?_; rintro e w11 ⟨a5, c5, rfl, hrd5, hbl5, hge5⟩
        have k5 := HKW.out.below hbl5
        have f0 := k5.fz 0
        have f1 := k5.fz 1
        have r0 := k5.c0
        have r1 := k5.c1
        have k6 := (k5.set0 nm).set (.slice a5 rn c5)
        have kd6 := ((HKD.out.below hbl5).grown (gb_set w11 G 0 (.string nm)) (fun e => by have := Option.some.inj e; have := HSC.out; omega)).grown (gb_set _ G 1 (.slice a5 rn c5)) (fun e => by have := Option.some.inj e; have := HSC.out; omega)
        have hne : 0 < (strs R).length → ∀ b o, a5 = some ⟨b, o, none⟩ → b ≠ G := fun h0 b o e => by have := hge5 h0 b o e; omega
        have hr6 := (hrd5.gbne hne (gb_set w11 G 0 (.string nm))).gbne hne (gb_set _ G 1 (.slice a5 rn c5))
        have hneb : 0 < (strs l).length → ∀ b' o, some (⟨b, 0, none⟩ : Addr) = some ⟨b', o, none⟩ → b' ≠ G := fun _ b' o' e => by cases e; have := HSC.out; omega
        have hl6 := ((HLW.out.below hbl5).gbne hneb (gb_set w11 G 0 (.string nm))).gbne hneb (gb_set _ G 1 (.slice a5 rn c5))
        have hown6 := ((own_below hown.out hbl5).kept (gb_set w11 G 0 (.string nm)) (row_block hown.out (by omega))).kept (gb_set _ G 1 (.slice a5 rn c5)) (row_block hown.out (by omega))
        have hb6 := ((keep HBW.out hbl5).setCell (p := ⟨G, 0, none⟩) (by show w.heap.size ≤ G; have := HG.out; omega) (.string nm)).setCell (p := ⟨G, 1, none⟩) (by show w.heap.size ≤ G; have := HG.out; omega) (.slice a5 rn c5)
        obtain ⟨W12, hW12⟩ : ∃ W12, W12 = (w11.setCell ⟨G, 0, none⟩ (.string nm)).setCell ⟨G, 1, none⟩ (.slice a5 rn c5) := ⟨_, rfl⟩
        rw [← hW12] at k6 kd6 hr6 hl6 hown6 hb6
        obtain ⟨av', cv', e6, hk6, _⟩ := RdV.of_row hown6
        rw [strs_length] at e6
        obtain ⟨rfl, rfl⟩ : av' = av ∧ cv' = cv := by injection e6 with h1 _ h3; exact ⟨h1.symm, h3.symm⟩
        have K6 := Lib.hid k6
        have KD6 := Lib.hid kd6
        have HR6 := Lib.hid hr6
        have HL6 := Lib.hid hl6
        have HK6 := Lib.hid (show RdS W12 av' cv' ks from hk6)
        have HB6 := Lib.hid hb6
        clear hrd5 hbl5 hge5 k5 k6 kd6 hne hr6 hneb hl6 hown6 hb6 e6 hk6
        go_wp2_with fail
        rw [← hW12]
        clear hW12 f0 f1 r0 r1
        refine (HRW2.out W12 (HLS.out.below HB6.out)).mono ?_; rintro e w13 ⟨a6, c6, rfl, hrd13, hbl13⟩
        have hb13 := keep HB6.out hbl13
        have hev13 := HE.out.below hb13
        have hR13 := HR6.out.below hbl13
        have hL13 := HL6.out.below hbl13
        have hK13 := HK6.out.below hbl13
        have k13 := K6.out.below hbl13
        have kd13 := KD6.out.below hbl13
        have hkn : kn l u = true := kn_ok HVL.out hl1 (by omega) hu.out
        have hkn0 : kn l emp = true := kn_ok HVL.out hl1 (by omega) (.inl rfl)
        have hRl := HRl.out
        have hR2l := HR2l.out
        have hlsz := HVL.out.sizes
        obtain ⟨x1, hx1⟩ : ∃ x, x = cov R (s.extract 0 q) R2 := ⟨_, rfl⟩
        obtain ⟨x2, hx2⟩ : ∃ x, x = cov l u ks := ⟨_, rfl⟩
        obtain ⟨P1, hP1⟩ : ∃ P, P = selK l u (lvf l u) := ⟨_, rfl⟩
        obtain ⟨P2, hP2⟩ : ∃ P, P = selK l emp (chf l emp) := ⟨_, rfl⟩
        have hP1l : P1.length ≤ 1000 := by rw [hP1]; exact Nat.le_trans selK_len (by omega)
        have hP2l : P2.length ≤ 1000 := by rw [hP2]; exact Nat.le_trans selK_len (by omega)
        obtain ⟨m1, hm1⟩ : ∃ m, m = P1.length := ⟨_, rfl⟩
        obtain ⟨m2, hm2⟩ : ∃ m, m = P2.length := ⟨_, rfl⟩
        have CV1 : Hid (∀ w', Below w13.heap.size w13 w' → Calls Tryd.prog 20 #[.agg #[.string nm, .slice a5 rn c5], .string (s.extract 0 q), .slice a6 rn2 c6] w' fun e w2 => e = .returned (.bool x1) ∧ Below w'.heap.size w' w2) := fun w' hb => by
          rw [hx1, HRN.out, HRN2.out]
          exact Cover_v nm a5 c5 R _ a6 c6 R2 w' (hR13.below hb) (by omega) (hrd13.below hb) (by omega) (hev13.below hb)
        have CR1 : Hid (∀ w', Below w13.heap.size w13 w' → Calls Tryd.prog 21 #[.agg #[.string nm, .slice a5 rn c5], .string (s.extract 0 q), .slice a6 rn2 c6] w' fun e w2 => e = .returned (.bool x1) ∧ Below w'.heap.size w' w2) := fun w' hb => by
          rw [hx1, HRN.out, HRN2.out]
          exact rCover_v nm a5 c5 R _ a6 c6 R2 w' (hR13.below hb) (by omega) HRsz.out (hrd13.below hb) (by omega) HR2sz.out
        have CV2 : Hid (∀ w', Below w13.heap.size w13 w' → Calls Tryd.prog 20 #[.agg #[.string ⟨#[99]⟩, .slice (some ⟨b, 0, none⟩) l.length c], .string u, .slice av' ks.length cv'] w' fun e w2 => e = .returned (.bool x2) ∧ Below w'.heap.size w' w2) := fun w' hb => by
          rw [hx2]
          exact Cover_v _ _ c l u av' cv' ks w' (hL13.below hb) (by omega) (hK13.below hb) (by omega) (hev13.below hb)
        have CR2 : Hid (∀ w', Below w13.heap.size w13 w' → Calls Tryd.prog 21 #[.agg #[.string ⟨#[99]⟩, .slice (some ⟨b, 0, none⟩) l.length c], .string u, .slice av' ks.length cv'] w' fun e w2 => e = .returned (.bool x2) ∧ Below w'.heap.size w' w2) := fun w' hb => by
          rw [hx2]
          exact rCover_v _ _ c l u av' cv' ks w' (hL13.below hb) (by omega) hlsz (hK13.below hb) (by omega) hks.out
        have CL : Hid (∀ w', Below w13.heap.size w13 w' → Calls Tryd.prog 17 #[.agg #[.string ⟨#[99]⟩, .slice (some ⟨b, 0, none⟩) l.length c], .string u] w' fun e w2 => ∃ a c, e = .returned (.slice a m1 c) ∧ RdS w2 a c P1 ∧ Below w'.heap.size w' w2) := fun w' hb => by
          rw [hP1]
          exact (rLeaves_v _ _ c l u w' (hL13.below hb) (by omega) hlsz).mono fun e w2 hp => hp.row (by rw [hm1, hP1])
        have CK : Hid (∀ w', Below w13.heap.size w13 w' → Calls Tryd.prog 15 #[.agg #[.string ⟨#[99]⟩, .slice (some ⟨b, 0, none⟩) l.length c], .string ⟨#[]⟩] w' fun e w2 => ∃ a c, e = .returned (.slice a m2 c) ∧ RdS w2 a c P2 ∧ Below w'.heap.size w' w2) := fun w' hb => by
          rw [hP2]
          exact (rChildren_v _ _ c l emp w' (hL13.below hb) (by omega) hlsz).mono fun e w2 hp => hp.row (by rw [hm2, hP2])
        have CV3 : Hid (∀ w' a c', Below w13.heap.size w13 w' → RdS w' a c' P1 → Calls Tryd.prog 20 #[.agg #[.string ⟨#[99]⟩, .slice (some ⟨b, 0, none⟩) l.length c], .string u, .slice a m1 c'] w' fun e w2 => e = .returned (.bool true) ∧ Below w'.heap.size w' w2) := fun w' a c' hb hr => by
          have h := Cover_v ⟨#[99]⟩ _ c l u a c' P1 w' (hL13.below hb) (by omega) hr hP1l (hev13.below hb)
          rw [← hm1] at h
          exact h.mono fun e w2 ⟨h1, h2⟩ => ⟨by rw [h1, hP1, cov_leaves hkn], h2⟩
        have CV4 : Hid (∀ w' a c', Below w13.heap.size w13 w' → RdS w' a c' P2 → Calls Tryd.prog 20 #[.agg #[.string ⟨#[99]⟩, .slice (some ⟨b, 0, none⟩) l.length c], .string ⟨#[]⟩, .slice a m2 c'] w' fun e w2 => e = .returned (.bool true) ∧ Below w'.heap.size w' w2) := fun w' a c' hb hr => by
          have h := Cover_v ⟨#[99]⟩ _ c l emp a c' P2 w' (hL13.below hb) (by omega) hr hP2l (hev13.below hb)
          rw [← hm2] at h
          exact h.mono fun e w2 ⟨h1, h2⟩ => ⟨by rw [h1, hP2, cov_kids hkn0], h2⟩
        have CA : Hid (∀ w', Below w13.heap.size w13 w' → Calls Tryd.prog 11 #[] w' fun e w2 => e = .returned (.bool true) ∧ Below w'.heap.size w' w2) := fun w' hb => awake_v w' (hev13.below hb)
        have K : Hid (∀ w', Below w13.heap.size w13 w' → w'.cell? ⟨G, 0, none⟩ = some (.string nm) ∧ w'.cell? ⟨G, 1, none⟩ = some (.slice a5 rn c5) ∧ w'.cell? ⟨w3.heap.size, 0, none⟩ = some (.string ⟨#[99]⟩) ∧ w'.cell? ⟨w3.heap.size, 1, none⟩ = some (.slice (some ⟨b, 0, none⟩) l.length c) ∧ Below w13.heap.size w13 w') := fun w' hb =>
          ⟨(k13.below hb).c0, (k13.below hb).c1, (kd13.below hb).c0, (kd13.below hb).c1, hb⟩
        have HB13 := Lib.hid hb13
        clear hrd13 hbl13 hb13 hev13 hR13 hL13 hK13 k13 kd13 hkn hkn0 hRl hR2l hlsz hx1 hx2 hP1 hP2 hP1l hP2l hm1 hm2
        have hfl := field1_v ⟨#[]⟩ a6 rn2 c6 w13
        go_wp2_with fail
        go_region_held3 (fun w' => w'.cell? ⟨G, 0, none⟩ = some (.string nm) ∧ w'.cell? ⟨G, 1, none⟩ = some (.slice a5 rn c5) ∧ w'.cell? ⟨w3.heap.size, 0, none⟩ = some (.string ⟨#[99]⟩) ∧ w'.cell? ⟨w3.heap.size, 1, none⟩ = some (.slice (some ⟨b, 0, none⟩) l.length c) ∧ Below w13.heap.size w13 w')
          (first | exact K.out _ (Below.refl _ _).drew | exact K.out _ (Below.refl _ _) | exact K.out _ (keepB (by assumption) (Nat.le_refl _) v1) | exact K.out _ (keepB (by assumption) (Nat.le_refl _) v2) | exact K.out _ (keepB (by assumption) (Nat.le_refl _) v3) | exact K.out _ (keepB (by assumption) (Nat.le_refl _) v4) | exact K.out _ (keepB (by assumption) (Nat.le_refl _) v5) | exact K.out _ (keepB (by assumption) (Nat.le_refl _) v6) | exact K.out _ (keepB (by assumption) (Nat.le_refl _) v7) | exact K.out _ (keepB (by assumption) (Nat.le_refl _) v8) | exact K.out _ BV)
          (first
            | (go_at_call_of 20 (Value.slice a6 rn2 c6); go_split_ands; refine (CV1.out _ (by assumption)).mono ?_; rintro e V1 ⟨rfl, v1⟩)
            | (go_at_call_of 21 (Value.slice a6 rn2 c6); go_split_ands; refine (CR1.out _ (by assumption)).mono ?_; rintro e V2 ⟨rfl, v2⟩)
            | (go_at_call_of 20 (Value.slice av' ks.length cv'); go_split_ands; refine (CV2.out _ (by assumption)).mono ?_; rintro e V3 ⟨rfl, v3⟩)
            | (go_at_call_of 21 (Value.slice av' ks.length cv'); go_split_ands; refine (CR2.out _ (by assumption)).mono ?_; rintro e V4 ⟨rfl, v4⟩)
            | (go_at_call 17; go_split_ands; refine (CL.out _ (by assumption)).mono ?_; rintro e V5 ⟨x5, y5, rfl, r5, v5⟩)
            | (go_at_call_of 20 (Value.slice x5 m1 y5); go_split_ands; refine (CV3.out _ _ _ (by assumption) r5).mono ?_; rintro e V6 ⟨rfl, v6⟩)
            | (go_at_call 15; go_split_ands; refine (CK.out _ (by assumption)).mono ?_; rintro e V7 ⟨x7, y7, rfl, r7, v7⟩)
            | (go_at_call_of 20 (Value.slice x7 m2 y7); go_split_ands; refine (CV4.out _ _ _ (by assumption) r7).mono ?_; rintro e V8 ⟨rfl, v8⟩)
            | (go_at_call 11; go_split_ands; refine (CA.out _ (by assumption)).mono ?_; rintro e V9 ⟨rfl, v9⟩; have BV : Below w13.heap.size w13 V9 := keepB (by assumption) (Nat.le_refl _) v9))
        all_goals
          have HBV := Lib.hid (keep HB13.out BV)
          go_wp2_with fail
          go_ret
          exact ⟨rfl, HBV.out⟩
end Go.Proofs.YtkodfmpaeemaiaaDoor.C6
