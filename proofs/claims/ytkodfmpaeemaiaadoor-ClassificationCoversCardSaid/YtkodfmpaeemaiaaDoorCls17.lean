import Derived.Test.YtkodfmpaeemaiaaDoorCls16
/- Made trees: Tape.Tree gives a valid classification. -/
namespace Go.Proofs.YtkodfmpaeemaiaaDoor.C6
open Go.RowKit Go.Sort

def TreePost (w : World) (B : Nat) (ao : Option Addr) (tn cap j : Nat) (e : Ending) (w' : World) : Prop :=
  ∃ (l : List ByteArray) (a : Option Addr) (c : Nat), e = .returned (.agg #[.string ⟨#[99]⟩, .slice a l.length c]) ∧ w'.ownsRow w.heap.size 9 1 (.slice a l.length c) l.length (strs l) ∧ VL l ∧ 1 ≤ l.length ∧ l.length ≤ 10 ∧
    w.grownBy w' (some B) ∧ ∃ j', j' ≤ j + 13 ∧ Tap w' B ao tn cap j'
theorem own_keepB {C : Nat} {w w' : World} {base n size : Nat} {e : TypeId} {v : Value} {xs : List Value} (h : w.ownsRow base e size v n xs) (b : Below C w w') (hv : ∀ k, v.ownBlock = some k → k < C) : w'.ownsRow base e size v n xs := by
  refine ⟨h.1, ?_⟩
  rcases h.2 with hn | ⟨g, cap, cur, rfl, h2, h3, h4⟩
  · exact .inl hn
  · exact .inr ⟨g, cap, cur, rfl, h2, (b.block g (hv g rfl)).trans h3, h4⟩
theorem St.keepB {C : Nat} {w wr w' : World} {B : Nat} {ao : Option Addr} {tn cap g gr : Nat} {nm : ByteArray} {j : Nat} {v : Value} {l : List ByteArray} (h : St w wr B ao tn cap g gr nm j v l) (b : Below C wr w') (_hC : C ≤ wr.heap.size) (h1 : B < gr) (h2 : gr < g) (h3 : g < C) (h4 : w.heap.size ≤ C) (hv : ∀ k, v.ownBlock = some k → k < C) : St w w' B ao tn cap g gr nm j v l :=
  ⟨(b.block B (by omega)).trans h.1, h.2.1.keepB b h3, h.2.2.1.keepB b (by omega), own_keepB h.2.2.2.1 b hv,
    ⟨b.os.trans h.2.2.2.2.1.os, b.tape.trans h.2.2.2.2.1.tape, b.output.trans h.2.2.2.2.1.output, Nat.le_trans h.2.2.2.2.1.size b.size, fun i hi hn => (b.block i (by omega)).trans (h.2.2.2.2.1.block i hi hn)⟩, Nat.lt_of_lt_of_le h.2.2.2.2.2 b.size⟩
/-- the last string of a list is the code of these parts -/
def Last (l : List ByteArray) (a : List Nat) : Prop := Pts a ∧ l.getD (l.length - 1) emp = txt a
theorem Last.snoc (l : List ByteArray) {a : List Nat} (h : Pts a) : Last (l ++ [txt a]) a := ⟨h, last_snoc l _⟩
theorem pts1 {n : Nat} (h : 1 ≤ n ∧ n ≤ 99) : Pts [n] := ⟨by simp, by simp, Ns.mk h Ns.nil⟩
theorem pts2 {n m : Nat} (h : 1 ≤ n ∧ n ≤ 99) (k : 1 ≤ m ∧ m ≤ 99) : Pts [n, m] := ⟨by simp, by simp, Ns.mk h (Ns.mk k Ns.nil)⟩
theorem pts3 {n m o : Nat} (h : 1 ≤ n ∧ n ≤ 99) (k : 1 ≤ m ∧ m ≤ 99) (i : 1 ≤ o ∧ o ≤ 99) : Pts [n, m, o] := ⟨by simp, by simp, Ns.mk h (Ns.mk k (Ns.mk i Ns.nil))⟩
/-- the reference's Format of parts in a row -/
theorem fmt_row {p : List Nat} (hp : Pts p) {a : Option Addr} {c : Nat} {base : Nat} {w : World} (h : w.ownsRow base 3 1 (.slice a p.length c) p.length (ints p)) :
    Calls Tryd.prog 30 #[.slice a p.length c] w fun e w' => e = .returned (.tuple #[.string (txt p), .int .i64 0]) ∧ Below w.heap.size w w' := by
  obtain ⟨a2, c2, e2, hr, _⟩ := RdV.of_row h
  rw [ints_length] at e2
  obtain ⟨rfl, rfl⟩ : a2 = a ∧ c2 = c := by cases e2; exact ⟨rfl, rfl⟩
  have := rFormat_v a2 c2 (zz p) w (by rw [ints_z] at hr; exact hr)
  rw [zz_length] at this
  exact this.mono fun e w' ⟨he, hw⟩ => ⟨fmt_txt hp he, hw⟩
theorem fmt_at {p : List Nat} (hp : Pts p) {w : World} {n : Nat} (hn : p.length = n) (cs : Array Value) (hcs : cs.toList = ints p) : Calls Tryd.prog 30 #[.slice (some ⟨w.heap.size, 0, none⟩) n n] (w.alloc (.cells cs 3)) fun e w' => e = .returned (.tuple #[.string (txt p), .int .i64 0]) ∧ Below w.heap.size w w' := by
  have hr : RdZ (w.alloc (.cells cs 3)) (some ⟨w.heap.size, 0, none⟩) n (zz p) := by
    refine ⟨by rw [intz_length, zz_length]; omega, by have := hp.2.1; omega, .inr ⟨_, 0, rfl, fun j v hv => ?_⟩⟩
    rw [Nat.zero_add, World.cell?_alloc_mark w _ _ (0, 0) j, ← Array.getElem?_toList, hcs, ints_z]
    exact hv
  have := rFormat_v (some ⟨w.heap.size, 0, none⟩) n (zz p) _ hr
  rw [zz_length, hn] at this
  exact this.mono fun e w' ⟨he, hw⟩ => ⟨fmt_txt hp he, (below_new w _).trans (hw.mono (by simp))⟩

set_option maxHeartbeats 16000000 in
set_option maxRecDepth 100000 in
theorem Tree_v (B : Nat) (ao : Option Addr) (cap : Nat) (ts : List Int) (j : Nat) (w : World) (hb : Tap w B ao ts.length cap j) (ht : RdZ w ao cap ts) (htB : 0 < (intz ts).length → ∀ b o, ao = some ⟨b, o, none⟩ → b < B) (hj : j ≤ 500) :
    Calls Tryd.prog 18 #[.pointer (some ⟨B, 0, none⟩)] w (TreePost w B ao ts.length cap j) := by
  obtain ⟨s0, hsi, hs0, hs1, hs2⟩ := info_parts infoStr
  obtain ⟨i0, hi, hz0, hz1, hz2⟩ := info_parts infoInt
  have hBl := hb.lt
  have k1 := Bxn.new w ⟨#[]⟩ (.slice none 0 0)
  have k2 := k1.below (below_new _ (.cells #[.string ⟨#[99]⟩, .slice none 0 0] 24))
  have k3 := Bxn.new (w.alloc (.cells #[.string ⟨#[]⟩, .slice none 0 0] 24)) ⟨#[99]⟩ (.slice none 0 0)
  have t3 := (hb.alloc (.cells #[.string ⟨#[]⟩, .slice none 0 0] 24)).alloc (.cells #[.string ⟨#[99]⟩, .slice none 0 0] 24)
  have bb := keep (below_new w (.cells #[.string ⟨#[]⟩, .slice none 0 0] 24)) (below_new _ (.cells #[.string ⟨#[99]⟩, .slice none 0 0] 24))
  simp only [World.size_alloc] at k3
  obtain ⟨W3, hW3⟩ : ∃ W3, W3 = (w.alloc (.cells #[.string ⟨#[]⟩, .slice none 0 0] 24)).alloc (.cells #[.string ⟨#[99]⟩, .slice none 0 0] 24) := ⟨_, rfl⟩
  have hs3 : W3.heap.size = w.heap.size + 1 + 1 := by rw [hW3]; simp
  rw [← hW3] at k2 k3 bb t3
  obtain ⟨g, hg⟩ : ∃ g, g = w.heap.size + 1 := ⟨_, rfl⟩
  obtain ⟨gr, hgr⟩ : ∃ gr, gr = w.heap.size := ⟨_, rfl⟩
  rw [← hg] at k3 hs3
  rw [← hgr] at k2
  have hBgr : B < gr := by omega
  have hgrg : gr < g := by omega
  have hwg : w.heap.size ≤ g := by omega
  have HGR := Lib.hid hgr
  obtain ⟨tn, htn⟩ : ∃ tn, tn = ts.length := ⟨_, rfl⟩
  rw [← htn] at t3 ⊢
  have ST3 : Hid (St w W3 B ao tn cap g gr ⟨#[99]⟩ j (.slice none 0 0) []) := ⟨t3, k3, k2, World.ownsRow_nil _ _ _ _, below_gb bb _, by omega⟩
  have HT := Lib.hid ht
  have HTB : Hid (0 < (intz ts).length → ∀ b o, ao = some ⟨b, o, none⟩ → b < B) := htB
  -- reading a number of the tape
  have hNext : ∀ (wr : World) (i m : Nat) (v : Value) (l : List ByteArray), St w wr B ao tn cap g gr ⟨#[99]⟩ i v l → i ≤ 900 → 1 ≤ m → m ≤ 1000 → ∀ n : Int, n = m → Calls Tryd.prog 19 #[.pointer (some ⟨B, 0, none⟩), .int .i64 n] wr fun e w' => ∃ r : Nat, e = .returned (.int .i64 (r : Int)) ∧ r < m ∧ St w w' B ao tn cap g gr ⟨#[99]⟩ (i + 1) v l ∧ wr.grownBy w' (some B) := fun wr i m v l st hi hm1 hm2 n hn => by
    have htp := st.1
    rw [htn] at htp
    refine (Next_v B ao cap ts i m wr htp (HT.out.gb HTB.out (Nat.le_of_lt hBl) st.2.2.2.2.1) (by omega) hm1 (by omega) n hn).mono ?_
    rintro e w' ⟨r, he, hr, hgb, _, htt⟩
    exact ⟨r, he, hr, st.next hgb (by rw [htn]; exact htt) hBgr hgrg, hgb⟩
  have NX := Lib.hid hNext
  clear hb ht htB k1 k2 k3 t3 bb hs3 hNext htn
  go_enter Tryd.func18, Tryd.ntmps18
  go_wp2_with fail
  rw [← hW3, ← hg, ← hgr]
  clear hW3 hg hgr
  refine (NX.out W3 j 2 _ _ ST3.out (by omega) (by omega) (by omega) 2 rfl).mono ?_; rintro e w4 ⟨r0, rfl, hr0, st4, -⟩
  have ST4 := Lib.hid st4
  clear st4
  obtain ⟨c, hc⟩ : ∃ c, c = 1 + r0 := ⟨_, rfl⟩
  have hcI : 1 + (r0 : Int) = (c : Int) := by omega
  have HCI := Lib.hid hcI
  have hc2 : c ≤ 2 := by omega
  have hc1 : 1 ≤ c := by omega
  have hr2 : (r0 : Int) < 2 := by omega
  clear hcI hc
  go_wp2_with fail
  rw [HCI.out]
  go_loopw [20] (fun s20 wr => ∃ (d i : Nat) (v : Value) (l : List ByteArray), d ≤ c ∧ s20 = .int .i64 (d : Int) ∧ i ≤ j + 1 + 6 * d ∧ l.length ≤ 5 * d ∧ (0 < d → 0 < l.length) ∧ (d = 0 → l.length = 0) ∧ Hid (St w wr B ao tn cap g gr ⟨#[99]⟩ i v l) ∧ Hid (VL l) ∧ Hid (d = 1 → ∃ t r, Last l (t :: r) ∧ t ≤ 11)) (fun s20 _ => c - (intOf s20).toNat)
  case atStart => exact ⟨0, j + 1, _, [], by omega, rfl, by omega, by simp, by omega, fun _ => rfl, ST4, VL.nil, fun h => by omega⟩
  case round =>
    obtain ⟨d, i, v, l, hdc, rfl, hij, hll, hl0, hl1, hst, hvl, hlast⟩ := hrel
    by_cases hlt : d < c
    · have hlt2 : (d : Int) < (c : Int) := by omega
      have hd2 : d ≤ 1 := by omega
      obtain ⟨av, cv, rfl⟩ := of_row_n hst.out.2.2.2.1
      go_wp2_with fail
      refine (NX.out _ i 2 _ _ hst.out (by omega) (by omega) (by omega) 2 rfl).mono ?_; rintro e w5 ⟨b0, rfl, hb0, st5, -⟩
      have ST5 := Lib.hid st5
      have hb2 : (b0 : Int) < 2 := by omega
      have HF1 := Lib.hid (fmt_at (w := w5) (pts1 (n := 1 + d + b0 * 10) (by omega)) rfl #[.int .i64 (1 + (d : Int) + (b0 : Int) * 10)] (by simp [ints]))
      clear st5
      go_wp2_with fail
      refine HF1.out.mono ?_; rintro e w6 ⟨rfl, b6⟩
      have ST6 := Lib.hid (ST5.out.below b6)
      clear b6 HF1
      obtain ⟨n1, hn1⟩ : ∃ n1, n1 = 1 + d + b0 * 10 := ⟨_, rfl⟩
      have hn12 : n1 ≤ 12 ∧ 1 ≤ n1 := by omega
      have hn0 : d = 0 → n1 ≤ 11 := by omega
      rw [← hn1]
      obtain ⟨T1, hT1⟩ : ∃ T, T = txt [n1] := ⟨_, rfl⟩
      rw [← hT1]
      have HT1 := Lib.hid hT1
      have HN1 := Lib.hid hn12
      have HN0 := Lib.hid hn0
      clear hn1 hT1 hn12 hn0
      go_upto_region 6 with fail
      go_cut [50] from 34 to 51 (fun v50 wx => ∃ b50 : Bool, v50 = .bool b50 ∧ Hid (St w wx B ao tn cap g gr ⟨#[99]⟩ (i + 1) (.slice av l.length cv) l) ∧ Hid (b50 = true → d = 1) ∧ Hid (b50 = false → 0 < l.length → ∃ a, Last l a ∧ cmpL a [n1] < 0))
      case first =>
        have q1 := ST6.out.2.1.c1
        by_cases hz : l.length = 0
        · have hz0 : ¬ 0 < l.length := by omega
          have hzI : ¬ (0 : Int) < (l.length : Int) := by omega
          go_wp2_with fail
          go_meet
          exact ⟨false, by simp, ST6, fun h => by simp at h, fun _ h => by omega⟩
        · have hd1 : d = 1 := by have : 0 < d := Nat.pos_of_ne_zero (fun e => hz (hl1 e)); omega
          obtain ⟨t, r, hla, ht11⟩ := hlast.out hd1
          obtain ⟨k, hk⟩ : ∃ k, l.length = k + 1 := ⟨l.length - 1, by omega⟩
          obtain ⟨a2, c2, e2, hrd, _⟩ := RdV.of_row ST6.out.2.2.2.1
          rw [strs_length] at e2
          obtain ⟨rfl, rfl⟩ : a2 = av ∧ c2 = cv := by cases e2; exact ⟨rfl, rfl⟩
          obtain ⟨bb, oo, rfl, hcl⟩ := hrd.atS (i := k) (by omega)
          have hlk : l.getD k ByteArray.empty = txt (t :: r) := by have := hla.2; rw [show l.length - 1 = k by omega] at this; exact this
          rw [hlk] at hcl
          have hsz1 : (txt (t :: r)).size ≤ 1000 := by rw [txt_size]; have := (cod_len hla.1).2; omega
          have hsz2 : T1.size ≤ 1000 := by rw [HT1.out, txt_size]; have := (cod_len (pts1 (n := n1) (by have := HN1.out; omega))).2; omega
          have hCV := fun w => rCompare_v (txt (t :: r)) T1 hsz1 hsz2 w
          rw [HT1.out, cmpS_txt hla.1 (pts1 (by have := HN1.out; omega)), ← HT1.out] at hCV
          obtain ⟨x, hx⟩ : ∃ x, x = cmpL (t :: r) [n1] := ⟨_, rfl⟩
          rw [← hx] at hCV
          obtain ⟨Y, hY⟩ : ∃ Y, Y = txt (t :: r) := ⟨_, rfl⟩
          rw [← hY] at hCV hcl
          have CV := Lib.hid hCV
          have HX := Lib.hid hx
          have HLA := Lib.hid hla
          have HK := Lib.hid hk
          have HD1 := Lib.hid hd1
          obtain ⟨m, hm⟩ : ∃ m, m = l.length := ⟨_, rfl⟩
          have e1 : (m : Int) - 1 = (k : Int) := by omega
          have hkm : k < m := by omega
          have hkI : (k : Int) < (m : Int) := by omega
          have hm0 : 0 < m := by omega
          have hm0I : (0 : Int) < (m : Int) := by omega
          have hk9 : k ≤ 100 := by omega
          rw [← hm] at q1
          have HM := Lib.hid hm
          clear hz hk hlk hCV hx hla hY hm hrd hl1 hl0 hd1
          by_cases hx0 : 0 ≤ x
          · have hx9 : decide (0 ≤ x) = true := decide_eq_true hx0
            go_wp2_with fail
            refine (CV.out _).mono ?_; rintro e w7 ⟨rfl, b7⟩
            have ST7 := Lib.hid (ST6.out.below b7)
            clear b7
            go_wp2_with fail
            go_meet
            exact ⟨true, by first | rfl | exact congrArg Value.bool hx9, ST7, fun _ => HD1.out, fun h => by cases h⟩
          · have hx9 : decide (0 ≤ x) = false := decide_eq_false hx0
            have hxn : x < 0 := by omega
            have HXN := Lib.hid hxn
            go_wp2_with fail
            refine (CV.out _).mono ?_; rintro e w7 ⟨rfl, b7⟩
            have ST7 := Lib.hid (ST6.out.below b7)
            clear b7
            go_wp2_with fail
            go_meet
            exact ⟨false, by first | rfl | exact congrArg Value.bool hx9, ST7, fun h => (by cases h), fun _ _ => ⟨t :: r, HLA.out, by rw [← HX.out]; exact HXN.out⟩⟩
      case rest =>
        obtain ⟨b50, rfl, hst6, hb1, hb2'⟩ := hcut
        go_upto_if 50 with fail
        go_cut [5] from 51 to 58 (fun v5 wx => ∃ n2, v5 = .string (txt [n2]) ∧ 1 ≤ n2 ∧ n2 ≤ 31 ∧ (d = 0 → n2 ≤ 11) ∧ Hid (St w wx B ao tn cap g gr ⟨#[99]⟩ (i + 1) (.slice av l.length cv) l) ∧ Hid (0 < l.length → ∃ a, Last l a ∧ cmpL a [n2] < 0))
        case first =>
          cases b50
          · have hh := hb2'.out rfl
            go_wp2_with fail
            go_meet
            exact ⟨n1, by rw [HT1.out], HN1.out.2, by have := HN1.out; omega, HN0.out, hst6, hh⟩
          · have hd1 := hb1.out rfl
            obtain ⟨t, r, hla, ht11⟩ := hlast.out hd1
            subst hd1
            have HF2 := Lib.hid (fmt_at (w := wc) (pts1 (n := 31) (by omega)) rfl #[.int .i64 31] (by simp [ints]))
            go_wp2_with fail
            refine HF2.out.mono ?_; rintro e w8 ⟨rfl, b8⟩
            have ST8 := Lib.hid (hst6.out.below b8)
            clear b8
            go_wp2_with fail
            go_meet
            exact ⟨31, rfl, by omega, by omega, by omega, ST8, fun _ => ⟨t :: r, hla, by simp only [cmpL]; rw [if_pos (by omega)]; omega⟩⟩
        case rest =>
          obtain ⟨n2, rfl, hn21, hn22, hn20, hst8, hcm⟩ := hcut
          obtain ⟨T2, hT2⟩ : ∃ T, T = txt [n2] := ⟨_, rfl⟩
          have hp2 : Pts [n2] := pts1 (by omega)
          have hvs : vs l T2 = 0 := by
            rw [hT2]
            by_cases h : 0 < l.length
            · obtain ⟨a, hla, hca⟩ := hcm.out h
              exact vs_more hp2 hla.1 (fun _ => hla.2) (fun _ => hca) (.inl rfl)
            · exact vs_more hp2 hp2 (fun h' => absurd h' h) (fun h' => absurd h' h) (.inl rfl)
          have HVL2 : Hid (VL (l ++ [T2])) := hvl.out.snoc hvs
          have HL2 : Hid (Last (l ++ [T2]) [n2]) := by rw [hT2]; exact Last.snoc l hp2
          rw [← hT2]
          have HT2 := Lib.hid hT2
          have HP2 := Lib.hid hp2
          obtain ⟨L, hL⟩ : ∃ L, L = l.length := ⟨_, rfl⟩
          have hL5 : L ≤ 5 := by omega
          have HLL := Lib.hid hL
          clear hT2 hp2 hvs hl0 hl1
          have qA := hst8.out.2.1.c1
          have fA := hst8.out.2.1.fz 1
          have hsA : g + 1 ≤ wc.heap.size := hst8.out.2.2.2.2.2
          have hoA := Lib.hid (hst8.out.2.2.2.1)
          go_wp2_with (at_builtin; refine wpList_append_own _ rfl _ _ 22 rfl (g + 1) 9 s0 (.string ByteArray.empty) 1 16 Tryd.underlying22 hsi hs0 hs1 hs2 rfl (by omega) _ _ _ rfl (hoA.out.alloc _) ⟨wc.heap.size, 0, none⟩ 1 1 [.string T2] rfl rfl (one_cell _ _ _) (by intro u hu; simp at hu; rcases hu with rfl; rfl) (by unfold maxLen; omega) (by omega) (by simp; omega) ?_; intro vA wA hownA hgrA _; obtain ⟨aA, cA, rfl⟩ := of_row_n hownA; have hpA := hst8.out.push hownA hgrA hBgr hgrg hwg; have HSA := Lib.hid hpA.2; have qqA := hpA.1.c1; have ffA := hpA.1.fz 1; clear hownA hgrA hpA qA fA)
          clear qqA ffA
          refine (NX.out _ (i + 1) 3 _ _ HSA.out (by omega) (by omega) (by omega) 3 rfl).mono ?_; rintro e w9 ⟨kc, rfl, hkc, st9, -⟩
          have ST9 := Lib.hid st9
          have hkcI : (kc : Int) < 3 := by omega
          clear st9
          go_wp2_with fail
          go_loopw [66] (fun s66 wr => ∃ (k i2 : Nat) (v : Value) (l2 : List ByteArray) (r : List Nat), k ≤ kc ∧ s66 = .int .i64 (k : Int) ∧ i2 ≤ i + 2 + 2 * k ∧ l2.length ≤ l.length + 1 + 2 * k ∧ 0 < l2.length ∧ Hid (St w wr B ao tn cap g gr ⟨#[99]⟩ i2 v l2) ∧ Hid (VL l2) ∧ Hid (T2 ∈ l2) ∧ Hid (Last l2 (n2 :: r)) ∧ Hid (cmpL r [1 + k * 9] < 0)) (fun s66 _ => kc - (intOf s66).toNat)
          case atStart => exact ⟨0, i + 2, _, _, [], by omega, rfl, by omega, by simp, by simp, ST9, HVL2, by unfold Hid; simp, HL2, by unfold Hid; decide⟩
          case round =>
            obtain ⟨k, i2, v2, l2, r, hkk, rfl, hi2, hll2, hl20, hst2, hvl2, hmem, hlast2, hcr⟩ := hrel
            by_cases hkt : k < kc
            · have hktI : (k : Int) < (kc : Int) := by omega
              have hk2 : k ≤ 1 := by omega
              obtain ⟨a2, c2, rfl⟩ := of_row_n hst2.out.2.2.2.1
              have hT2s : T2.size ≤ 1000 := by rw [HT2.out, txt_size]; have := (cod_len HP2.out).2; omega
              have hgw : g < wr.heap.size := hst2.out.2.2.2.2.2
              go_wp2_with fail
              refine (rParse_row T2 hT2s _).mono ?_; rintro e wp ⟨hpr, hpb⟩
              rcases hpr with ⟨p, v8, hpp, hpe, rfl, hpo⟩ | ⟨hno, _⟩
              · obtain rfl : p = [n2] := txt_inj hpp.2.2 HP2.out.2.2 (hpe.symm.trans HT2.out)
                have hpo1 : wp.ownsRow wr.heap.size 3 1 v8 1 (ints [n2]) := hpo
                have HPO := Lib.hid hpo1
                have HPB := Lib.hid hpb
                have hszp : wr.heap.size ≤ wp.heap.size := hpb.size
                have hrows8 : ∀ q, v8.ownBlock = some q → wr.heap.size ≤ q := fun q e => (hpo.lt q e).1
                clear hpo hpo1 hpb hpp hpe
                go_wp2_with (at_builtin; refine wpList_append_own _ rfl _ _ 25 rfl wr.heap.size 3 i0 (.int .i64 0) 1 8 Tryd.underlying25 hi hz0 hz1 hz2 rfl (by omega) _ _ _ rfl (HPO.out.alloc _) ⟨wp.heap.size, 0, none⟩ 1 1 [.int .i64 (1 + (k : Int) * 9)] rfl rfl (one_cell _ _ _) (by intro u hu; simp at hu; rcases hu with rfl; rfl) (by unfold maxLen; omega) (by omega) (by simp; omega) ?_; intro v5 w5 hown5 hgr5 _; obtain ⟨a5, c5, rfl⟩ := of_row_n hown5)
                have hp3 : Pts [n2, 1 + k * 9] := pts2 (by omega) (by omega)
                have hb5 : Below wr.heap.size wr w5 := app_below HPB.out hszp hgr5 hrows8
                have hF5 := fmt_row hp3 (a := a5) (c := c5) (base := wr.heap.size) (w := w5) (by rw [show ints [n2, 1 + k * 9] = ints [n2] ++ [.int .i64 (1 + (k : Int) * 9)] by simp [ints]]; exact hown5)
                have HF5 := Lib.hid hF5
                have HB5 := Lib.hid hb5
                have HP3 := Lib.hid hp3
                clear hown5 hgr5 hF5 hb5 hp3
                refine HF5.out.mono ?_; rintro e w6' ⟨rfl, b6'⟩
                have STB := Lib.hid ((hst2.out.below HB5.out).below b6')
                obtain ⟨T3, hT3⟩ : ∃ T, T = txt [n2, 1 + k * 9] := ⟨_, rfl⟩
                have hvs3 : vs l2 T3 = 0 := by
                  rw [hT3]
                  refine vs_more HP3.out hlast2.out.1 (fun _ => hlast2.out.2) (fun _ => ?_) (.inr (by rw [show ([n2, 1 + k * 9] : List Nat).dropLast = [n2] from rfl, ← HT2.out]; exact hmem.out))
                  simp only [cmpL, Nat.lt_irrefl, if_false]
                  exact hcr.out
                have HVL3 : Hid (VL (l2 ++ [T3])) := hvl2.out.snoc hvs3
                have HL3 : Hid (Last (l2 ++ [T3]) [n2, 1 + k * 9]) := by rw [hT3]; exact Last.snoc l2 HP3.out
                have HM3 : Hid (T2 ∈ l2 ++ [T3]) := by unfold Hid; simp [hmem.out]
                have HM3' : Hid (T3 ∈ l2 ++ [T3]) := by unfold Hid; simp
                rw [← hT3]
                have HT3 := Lib.hid hT3
                have hl29 : l2.length ≤ 20 := by omega
                clear hT3 hvs3 b6'
                have qB := STB.out.2.1.c1
                have fB := STB.out.2.1.fz 1
                have hsB : g + 1 ≤ w6'.heap.size := STB.out.2.2.2.2.2
                have hoB := Lib.hid (STB.out.2.2.2.1)
                go_wp2_with (at_builtin; refine wpList_append_own _ rfl _ _ 22 rfl (g + 1) 9 s0 (.string ByteArray.empty) 1 16 Tryd.underlying22 hsi hs0 hs1 hs2 rfl (by omega) _ _ _ rfl (hoB.out.alloc _) ⟨w6'.heap.size, 0, none⟩ 1 1 [.string T3] rfl rfl (one_cell _ _ _) (by intro u hu; simp at hu; rcases hu with rfl; rfl) (by unfold maxLen; omega) (by omega) (by simp; omega) ?_; intro vB wB hownB hgrB _; obtain ⟨aB, cB, rfl⟩ := of_row_n hownB; have hpB := STB.out.push hownB hgrB hBgr hgrg hwg; have HSB := Lib.hid hpB.2; have qqB := hpB.1.c1; have ffB := hpB.1.fz 1; clear hownB hgrB hpB qB fB)
                clear qqB ffB
                refine (NX.out _ i2 3 _ _ HSB.out (by omega) (by omega) (by omega) 3 rfl).mono ?_; rintro e w11 ⟨r3, rfl, hr3, st11, -⟩
                have ST11 := Lib.hid st11
                have hr3I : (r3 : Int) < 3 := by omega
                clear st11
                by_cases hr30 : r3 = 0
                · subst hr30
                  have hT3s : T3.size ≤ 1000 := by rw [HT3.out, txt_size]; have := (cod_len HP3.out).2; omega
                  have hgw11 : g < w11.heap.size := ST11.out.2.2.2.2.2
                  go_wp2_with fail
                  refine (rParse_row T3 hT3s _).mono ?_; rintro e wq ⟨hqr, hqb⟩
                  rcases hqr with ⟨p, v12, hpp, hpe, rfl, hpo⟩ | ⟨hno, _⟩
                  · obtain rfl : p = [n2, 1 + k * 9] := txt_inj hpp.2.2 HP3.out.2.2 (hpe.symm.trans HT3.out)
                    have hpo1 : wq.ownsRow w11.heap.size 3 1 v12 2 (ints [n2, 1 + k * 9]) := hpo
                    have HPO2 := Lib.hid hpo1
                    have HPB2 := Lib.hid hqb
                    have STQ := Lib.hid (ST11.out.below hqb)
                    have hszq : w11.heap.size ≤ wq.heap.size := hqb.size
                    clear hpo hpo1 hqb hpp hpe
                    go_wp2_with fail
                    refine (NX.out _ (i2 + 1) 99 _ _ STQ.out (by omega) (by omega) (by omega) 99 rfl).mono ?_; rintro e w13 ⟨q, rfl, hq, st13, g13⟩
                    have hBw : B < w11.heap.size := by omega
                    have HPO3 := Lib.hid (HPO2.out.kept g13 (row_block HPO2.out hBw))
                    have ST13 := Lib.hid st13
                    have hsz13 : w11.heap.size ≤ w13.heap.size := Nat.le_trans hszq g13.size
                    have hq9 : (q : Int) < 99 := by omega
                    have hrows12 : ∀ q, v12.ownBlock = some q → w11.heap.size ≤ q := fun q e => (HPO3.out.lt q e).1
                    clear st13 g13
                    go_wp2_with (at_builtin; refine wpList_append_own _ rfl _ _ 25 rfl w11.heap.size 3 i0 (.int .i64 0) 1 8 Tryd.underlying25 hi hz0 hz1 hz2 rfl (by omega) _ _ _ rfl (HPO3.out.alloc _) ⟨w13.heap.size, 0, none⟩ 1 1 [.int .i64 (1 + (q : Int))] rfl rfl (one_cell _ _ _) (by intro u hu; simp at hu; rcases hu with rfl; rfl) (by unfold maxLen; omega) (by omega) (by simp; omega) ?_; intro v6 w6 hown6 hgr6 _; obtain ⟨a6, c6, rfl⟩ := of_row_n hown6)
                    have hp4 : Pts [n2, 1 + k * 9, 1 + q] := pts3 (by omega) (by omega) (by omega)
                    have hb6 : Below w11.heap.size w13 w6 := app_below (Below.refl _ _) hsz13 hgr6 hrows12
                    have hrowl : ∀ k, (Value.slice aB (l2.length + 1) cB).ownBlock = some k → k < w11.heap.size := fun k e => by have h := ST11.out.2.2.2.1; rw [List.length_append, List.length_singleton] at h; exact (h.lt k e).2
                    have hst6' := ST13.out.keepB hb6 hsz13 hBgr hgrg hgw11 (by omega) hrowl
                    have hF6 := fmt_row hp4 (a := a6) (c := c6) (base := w11.heap.size) (w := w6) (by rw [show ints [n2, 1 + k * 9, 1 + q] = ints [n2, 1 + k * 9] ++ [.int .i64 (1 + (q : Int))] by simp [ints]]; exact hown6)
                    have HF6 := Lib.hid hF6
                    have HP4 := Lib.hid hp4
                    have HST6 := Lib.hid hst6'
                    clear hown6 hgr6 hF6 hb6 hp4 hst6'
                    refine HF6.out.mono ?_; rintro e w7' ⟨rfl, b7'⟩
                    have STC := Lib.hid (HST6.out.below b7')
                    obtain ⟨T4, hT4⟩ : ∃ T, T = txt [n2, 1 + k * 9, 1 + q] := ⟨_, rfl⟩
                    have hvs4 : vs (l2 ++ [T3]) T4 = 0 := by
                      rw [hT4]
                      refine vs_more HP4.out HL3.out.1 (fun _ => HL3.out.2) (fun _ => ?_) (.inr (by rw [show ([n2, 1 + k * 9, 1 + q] : List Nat).dropLast = [n2, 1 + k * 9] from rfl, ← HT3.out]; exact HM3'.out))
                      simp [cmpL]
                    have HVL4 : Hid (VL (l2 ++ [T3] ++ [T4])) := HVL3.out.snoc hvs4
                    have HL4 : Hid (Last (l2 ++ [T3] ++ [T4]) [n2, 1 + k * 9, 1 + q]) := by rw [hT4]; exact Last.snoc _ HP4.out
                    have HM4 : Hid (T2 ∈ l2 ++ [T3] ++ [T4]) := by unfold Hid; simp [hmem.out]
                    rw [← hT4]
                    have HT4 := Lib.hid hT4
                    obtain ⟨l3, hl3⟩ : ∃ x, x = l2 ++ [T3] := ⟨_, rfl⟩
                    have hl3n : l2.length + 1 = l3.length := by rw [hl3]; simp
                    rw [← hl3] at STC HVL4 HL4 HM4
                    rw [hl3n] at STC
                    have hl39 : l3.length ≤ 21 := by omega
                    have HL3N := Lib.hid hl3n
                    rw [hl3n]
                    clear hT4 hvs4 b7' hl3 hl3n
                    have qC := STC.out.2.1.c1
                    have fC := STC.out.2.1.fz 1
                    have hsC : g + 1 ≤ w7'.heap.size := STC.out.2.2.2.2.2
                    have hoC := Lib.hid (STC.out.2.2.2.1)
                    go_wp2_with (at_builtin; refine wpList_append_own _ rfl _ _ 22 rfl (g + 1) 9 s0 (.string ByteArray.empty) 1 16 Tryd.underlying22 hsi hs0 hs1 hs2 rfl (by omega) _ _ _ rfl (hoC.out.alloc _) ⟨w7'.heap.size, 0, none⟩ 1 1 [.string T4] rfl rfl (one_cell _ _ _) (by intro u hu; simp at hu; rcases hu with rfl; rfl) (by unfold maxLen; omega) (by omega) (by simp; omega) ?_; intro vC wC hownC hgrC _; obtain ⟨aC, cC, rfl⟩ := of_row_n hownC; have hpC := STC.out.push hownC hgrC hBgr hgrg hwg; have HSC := Lib.hid hpC.2; have qqC := hpC.1.c1; have ffC := hpC.1.fz 1; clear hownC hgrC hpC qC fC)
                    clear qqC ffC
                    go_roundw
                    case rel => exact ⟨k + 1, i2 + 2, _, l3 ++ [T4], [1 + k * 9, 1 + q], by omega, by go_num, by omega, by have := HL3N.out; simp; omega, by simp, HSC, HVL4, HM4, HL4, by unfold Hid; simp only [cmpL]; rw [if_pos (by omega)]; omega⟩
                    case measure => simp [intOf]; omega
                  · exact absurd HT3.out (hno _ HP3.out)
                · have hr3b : ((r3 : Int) == 0) = false := beq_eq_false_iff_ne.2 (by omega)
                  clear hr30
                  go_wp2_with fail
                  go_roundw
                  case rel => exact ⟨k + 1, i2 + 1, _, l2 ++ [T3], [1 + k * 9], by omega, by go_num, by omega, by simp; omega, by simp, ST11, HVL3, HM3, HL3, by unfold Hid; simp only [cmpL]; rw [if_pos (by omega)]; omega⟩
                  case measure => simp [intOf]; omega
              · exact absurd HT2.out (hno _ HP2.out)
            · obtain rfl : k = kc := by omega
              have hktI : ¬ (k : Int) < (k : Int) := by omega
              go_wp2_with fail
              go_roundw
              case rel => exact ⟨d + 1, i2, _, l2, by omega, by go_num, by omega, by omega, fun _ => hl20, fun h => by omega, hst2, hvl2, fun h => ⟨n2, r, hlast2.out, hn20 (by omega)⟩⟩
              case measure => simp [intOf]; omega
    · obtain rfl : d = c := by omega
      have hlt2 : ¬ (d : Int) < (d : Int) := by omega
      obtain ⟨av, cv, rfl⟩ := of_row_n hst.out.2.2.2.1
      have hxr := hst.out.2.2.1
      have hxg := hst.out.2.1
      have hb4 : (wr.setCell ⟨gr, 0, none⟩ (.string ⟨#[99]⟩)).setCell ⟨gr, 1, none⟩ (.slice av l.length cv) = (wr.setCell ⟨gr, 0, none⟩ (.string ⟨#[99]⟩)).setCell ⟨gr, 1, none⟩ (.slice av l.length cv) := rfl
      obtain ⟨W4, hW4⟩ : ∃ W4, W4 = (wr.setCell ⟨gr, 0, none⟩ (.string ⟨#[99]⟩)).setCell ⟨gr, 1, none⟩ (.slice av l.length cv) := ⟨_, rfl⟩
      have hx4 : Bxn W4 gr ⟨#[99]⟩ (.slice av l.length cv) := by rw [hW4]; exact (hxr.set0 _).set _
      have hgb : wr.grownBy W4 (some gr) := by rw [hW4]; exact gb_trans (gb_set _ _ _ _) (gb_set _ _ _ _)
      have ho4 : W4.ownsRow w.heap.size 9 1 (.slice av l.length cv) l.length (strs l) := own_mono (hst.out.2.2.2.1.kept hgb (row_block hst.out.2.2.2.1 (by omega))) (by omega)
      have ht4 : Tap W4 B ao tn cap i := hst.out.1.grown hgb (fun e => by have := Option.some.inj e; omega)
      have hg4 : w.grownBy W4 (some B) := by
        have h0 := hst.out.2.2.2.2.1
        refine ⟨hgb.os.trans h0.os, hgb.tape.trans h0.tape, hgb.output.trans h0.output, Nat.le_trans h0.size hgb.size, fun b hb hn => (hgb.block b (Nat.lt_of_lt_of_le hb h0.size) (fun e => ?_)).trans (h0.block b hb hn)⟩
        have := Option.some.inj e
        have := HGR.out
        omega
      have HX4 := Lib.hid hx4
      have HPost : Hid (TreePost w B ao tn cap j (.returned (.agg #[.string ⟨#[99]⟩, .slice av l.length cv])) W4) := ⟨l, av, cv, rfl, ho4, hvl.out, hl0 (by omega), by omega, hg4, i, by omega, ht4⟩
      have p0 := hxg.c0
      have p1 := hxg.c1
      have f0 := hxr.fz 0
      have f1 := hxr.fz 1
      have r0' := hxr.c0
      have r1' := hxr.c1
      have hng : gr ≠ g := by omega
      clear hxr hxg hb4 hx4 hgb ho4 ht4 hg4
      go_wp2_with fail
      rw [← hW4]
      have j0 := HX4.out.c0
      have j1 := HX4.out.c1
      refine bodyPost_ret (v := .agg #[.string ⟨#[99]⟩, .slice av l.length cv]) (by simp [results, Tryd.results18, go_sem, j0, j1]) rfl ?_
      exact HPost.out
end Go.Proofs.YtkodfmpaeemaiaaDoor.C6
