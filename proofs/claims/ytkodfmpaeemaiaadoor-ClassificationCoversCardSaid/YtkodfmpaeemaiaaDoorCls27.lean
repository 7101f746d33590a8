import Derived.Test.YtkodfmpaeemaiaaDoorCls17
import Derived.Test.YtkodfmpaeemaiaaDoorCls7
import Derived.Test.YtkodfmpaeemaiaaDoorClsD
/- A made classification with at most one fault: spoiled. -/
namespace Go.Proofs.YtkodfmpaeemaiaaDoor.C6
open Go.RowKit Go.Sort

def SpPost (w : World) (B : Nat) (ao : Option Addr) (tn cap j : Nat) (e : Ending) (w' : World) : Prop :=
  ∃ (l : List ByteArray) (b c : Nat), e = .returned (.agg #[.string ⟨#[99]⟩, .slice (some ⟨b, 0, none⟩) l.length c]) ∧ w'.ownsRow w.heap.size 9 1 (.slice (some ⟨b, 0, none⟩) l.length c) l.length (strs l) ∧ l.length ≤ 11 ∧ (∀ s ∈ l, s.size ≤ 1000) ∧
    w.grownBy w' (some B) ∧ ∃ j', j' ≤ j + 21 ∧ Tap w' B ao tn cap j'
theorem VL.sizes {l : List ByteArray} (h : VL l) : ∀ s ∈ l, s.size ≤ 1000 := by
  obtain ⟨ps, rfl, hv⟩ := VL.parts l.length l rfl h
  intro s hs
  obtain ⟨p, hp, rfl⟩ := List.mem_map.1 hs
  rw [txt_size]
  have := (cod_len (hv.1 p hp)).2
  omega
/-- what spoiled keeps -/
def Sp (w wr : World) (B : Nat) (ao : Option Addr) (tn cap g gr j b c n : Nat) (l : List ByteArray) : Prop :=
  Tap wr B ao tn cap j ∧ Bxn wr g ⟨#[99]⟩ (.slice (some ⟨b, 0, none⟩) n c) ∧ Bxn wr gr ⟨#[]⟩ (.slice none 0 0) ∧ wr.ownsRow (gr + 1) 9 1 (.slice (some ⟨b, 0, none⟩) n c) n (strs l) ∧ b ≠ g ∧ w.grownBy wr (some B)
theorem Sp.len {w wr : World} {B : Nat} {ao : Option Addr} {tn cap g gr j b c n : Nat} {l : List ByteArray} (h : Sp w wr B ao tn cap g gr j b c n l) : l.length = n := by
  have := h.2.2.2.1.1
  rw [strs_length] at this
  omega
theorem Sp.next {w wr w' : World} {B : Nat} {ao : Option Addr} {tn cap g gr j j' b c n : Nat} {l : List ByteArray} (h : Sp w wr B ao tn cap g gr j b c n l) (k : wr.grownBy w' (some B)) (t : Tap w' B ao tn cap j') (h1 : B < gr) (h2 : gr < g) : Sp w w' B ao tn cap g gr j' b c n l :=
  ⟨t, h.2.1.grown k (fun e => by have := Option.some.inj e; omega), h.2.2.1.grown k (fun e => by have := Option.some.inj e; omega), h.2.2.2.1.kept k (row_block h.2.2.2.1 (by omega)), h.2.2.2.2.1, gb_trans h.2.2.2.2.2 k⟩
theorem Sp.done {w wr : World} {B : Nat} {ao : Option Addr} {tn cap g gr i j b c n : Nat} {l : List ByteArray} (h : Sp w wr B ao tn cap g gr j b c n l) (h1 : B < gr) (hgr : gr = w.heap.size) (hj : j ≤ i + 21) (hn : n ≤ 11) (hs : ∀ s ∈ l, s.size ≤ 1000) :
    SpPost w B ao tn cap i (.returned (.agg #[.string ⟨#[99]⟩, .slice (some ⟨b, 0, none⟩) n c])) ((wr.setCell ⟨gr, 0, none⟩ (.string ⟨#[99]⟩)).setCell ⟨gr, 1, none⟩ (.slice (some ⟨b, 0, none⟩) n c)) := by
  obtain rfl : l.length = n := h.len
  have hb := (h.2.2.2.1.lt b rfl).1
  have hg : ∀ (W : World) (k : Nat) (u : Value), W.grownBy (W.setCell ⟨gr, k, none⟩ u) (some gr) := fun W k u => gb_set W gr k u
  refine ⟨l, b, c, rfl, ?_, hn, hs, ?_, j, hj, ?_⟩
  · have h2 := (h.2.2.2.1.kept (hg wr 0 (.string ⟨#[99]⟩)) (row_block h.2.2.2.1 (by omega))).kept (hg _ 1 (.slice (some ⟨b, 0, none⟩) l.length c)) (row_block h.2.2.2.1 (by omega))
    exact own_mono h2 (by omega)
  · refine ⟨h.2.2.2.2.2.os, h.2.2.2.2.2.tape, h.2.2.2.2.2.output, by simpa using h.2.2.2.2.2.size, fun k hk hne => ?_⟩
    rw [Below.heap_setCell _ _ _ _ (by show k ≠ gr; omega), Below.heap_setCell _ _ _ _ (by show k ≠ gr; omega)]
    exact h.2.2.2.2.2.block k hk hne
  · exact (h.1.grown (hg wr 0 _) (fun e => by have := Option.some.inj e; omega)).grown (hg _ 1 _) (fun e => by have := Option.some.inj e; omega)

theorem of_row_some {w : World} {base n n' size : Nat} {e : TypeId} {v : Value} {xs : List Value} (h : w.ownsRow base e size v n xs) (hv : v ≠ .slice none 0 0) (hn : n = n') : ∃ b cap, v = .slice (some ⟨b, 0, none⟩) n' cap ∧ w.ownsRow base e size v n' xs ∧ base ≤ b := by
  subst hn
  rcases h.2 with ⟨rfl, _⟩ | ⟨g, cap, cur, rfl, hb, _⟩
  · exact absurd rfl hv
  · exact ⟨g, cap, rfl, h, hb⟩
theorem Sp.drew {w wr : World} {B : Nat} {ao : Option Addr} {tn cap g gr j b c n : Nat} {l : List ByteArray} (h : Sp w wr B ao tn cap g gr j b c n l) : Sp w wr.drew B ao tn cap g gr j b c n l :=
  ⟨h.1, h.2.1, h.2.2.1, h.2.2.2.1, h.2.2.2.2.1, gb_trans h.2.2.2.2.2 (gb_drewN wr 1 _)⟩
/-- a new list in the box -/
theorem Sp.put {w w5 w7 : World} {B : Nat} {ao : Option Addr} {tn cap g gr j b c n b7 c7 n7 : Nat} {l l7 : List ByteArray} (h : Sp w w5 B ao tn cap g gr j b c n l) (h1 : B < gr) (h2 : gr < g) (hgr : gr = w.heap.size) (k : w5.grownBy w7 (some b)) (hb : gr + 1 ≤ b)
    (ho : w7.ownsRow (gr + 1) 9 1 (.slice (some ⟨b7, 0, none⟩) n7 c7) n7 (strs l7)) (hne : b7 ≠ g) :
    Sp w (w7.setCell ⟨g, 1, none⟩ (.slice (some ⟨b7, 0, none⟩) n7 c7)) B ao tn cap g gr j b7 c7 n7 l7 := by
  have hs := gb_set w7 g 1 (.slice (some ⟨b7, 0, none⟩) n7 c7)
  have hbg := h.2.2.2.2.1
  refine ⟨(h.1.grown k (fun e => by have := Option.some.inj e; omega)).grown hs (fun e => by have := Option.some.inj e; omega), (h.2.1.grown k (fun e => hbg (Option.some.inj e).symm)).set _, (h.2.2.1.grown k (fun e => by have := Option.some.inj e; omega)).grown hs (fun e => by have := Option.some.inj e; omega), ho.kept hs (.inr (fun e => hne (Option.some.inj e))), hne, ?_⟩
  have h5 := h.2.2.2.2.2
  refine ⟨k.os.trans h5.os, k.tape.trans h5.tape, k.output.trans h5.output, Nat.le_trans h5.size (Nat.le_trans k.size hs.size), fun q hq hn => ?_⟩
  have hq5 := Nat.lt_of_lt_of_le hq h5.size
  exact ((hs.block q (Nat.lt_of_lt_of_le hq5 k.size) (fun e => by have := Option.some.inj e; omega)).trans (k.block q hq5 (fun e => by have := Option.some.inj e; omega))).trans (h5.block q hq hn)
/-- a string stored into the list -/
theorem Sp.store {w w5 : World} {B : Nat} {ao : Option Addr} {tn cap g gr j b c n : Nat} {l : List ByteArray} (h : Sp w w5 B ao tn cap g gr j b c n l) (h1 : B < gr) (hgr : gr = w.heap.size) (i : Nat) (s : ByteArray) :
    Sp w (w5.setCell ⟨b, i, none⟩ (.string s)) B ao tn cap g gr j b c n (l.set i s) := by
  obtain ⟨ho, hs⟩ := h.2.2.2.1.stored i (.string s)
  have hb := (h.2.2.2.1.lt b rfl).1
  have hbg := h.2.2.2.2.1
  refine ⟨h.1.grown hs (fun e => by have := Option.some.inj e; omega), h.2.1.grown hs (fun e => hbg (Option.some.inj e).symm), h.2.2.1.grown hs (fun e => by have := Option.some.inj e; omega), ?_, hbg, ?_⟩
  · rw [show strs (l.set i s) = (strs l).set i (.string s) by simp [strs, List.map_set]]
    exact ho
  · have h5 := h.2.2.2.2.2
    refine ⟨hs.os.trans h5.os, hs.tape.trans h5.tape, hs.output.trans h5.output, Nat.le_trans h5.size hs.size, fun q hq hn => ?_⟩
    exact (hs.block q (Nat.lt_of_lt_of_le hq h5.size) (fun e => by have := Option.some.inj e; omega)).trans (h5.block q hq hn)

set_option maxHeartbeats 16000000 in
set_option maxRecDepth 100000 in
theorem spoiled_v (B : Nat) (ao : Option Addr) (cap : Nat) (ts : List Int) (j : Nat) (w : World) (hb : Tap w B ao ts.length cap j) (ht : RdZ w ao cap ts) (htB : 0 < (intz ts).length → ∀ b o, ao = some ⟨b, o, none⟩ → b < B) (hj : j ≤ 400) :
    Calls Tryd.prog 7 #[.pointer (some ⟨B, 0, none⟩)] w (SpPost w B ao ts.length cap j) := by
  obtain ⟨i0, hi, hz0, hz1, hz2⟩ := info_parts infoStr
  have hBl := hb.lt
  have k1 := Bxn.new w ⟨#[]⟩ (.slice none 0 0)
  have t1 := hb.alloc (.cells #[.string ⟨#[]⟩, .slice none 0 0] 24)
  have b1 := below_new w (.cells #[.string ⟨#[]⟩, .slice none 0 0] 24)
  obtain ⟨W1, hW1⟩ : ∃ W1, W1 = w.alloc (.cells #[.string ⟨#[]⟩, .slice none 0 0] 24) := ⟨_, rfl⟩
  have hs1 : W1.heap.size = w.heap.size + 1 := by rw [hW1]; simp
  rw [← hW1] at k1 t1 b1
  obtain ⟨gr, hgr⟩ : ∃ gr, gr = w.heap.size := ⟨_, rfl⟩
  rw [← hgr] at k1
  have hBgr : B < gr := by omega
  have HT := Lib.hid ht
  have HTB : Hid (0 < (intz ts).length → ∀ b o, ao = some ⟨b, o, none⟩ → b < B) := htB
  have K1 := Lib.hid k1
  have B1 := Lib.hid b1
  have HTr := Lib.hid (Tree_v B ao cap ts j W1 t1 (ht.below b1) htB (by omega))
  have HGR : Hid (gr = w.heap.size ∧ W1.heap.size = gr + 1) := ⟨hgr, by omega⟩
  -- reading a number of the tape
  have hNext : ∀ (wr : World) (g i m b c n : Nat) (l : List ByteArray), Sp w wr B ao ts.length cap g gr i b c n l → gr < g → i ≤ 900 → 1 ≤ m → m ≤ 1000 → ∀ q : Int, q = m → Calls Tryd.prog 19 #[.pointer (some ⟨B, 0, none⟩), .int .i64 q] wr fun e w' => ∃ r : Nat, e = .returned (.int .i64 (r : Int)) ∧ r < m ∧ Sp w w' B ao ts.length cap g gr (i + 1) b c n l := fun wr g i m b c n l st hg hi hm1 hm2 q hq => by
    refine (Next_v B ao cap ts i m wr st.1 (HT.out.gb HTB.out (Nat.le_of_lt hBl) st.2.2.2.2.2) (by omega) hm1 (by omega) q hq).mono ?_
    rintro e w' ⟨r, he, hr, hgb, _, htt⟩
    exact ⟨r, he, hr, st.next hgb htt hBgr hg⟩
  have NX := Lib.hid hNext
  have hCode : ∀ (wr : World) (g i b c n : Nat) (l : List ByteArray), Sp w wr B ao ts.length cap g gr i b c n l → gr < g → i ≤ 900 → Calls Tryd.prog 12 #[.pointer (some ⟨B, 0, none⟩)] wr fun e w' => ∃ s : ByteArray, e = .returned (.string s) ∧ s.size ≤ 14 ∧ wr.grownBy w' (some B) ∧ ∃ i', i' ≤ i + 6 ∧ Sp w w' B ao ts.length cap g gr i' b c n l := fun wr g i b c n l st hg hi => by
    refine (code_v B ao cap ts i wr st.1 (HT.out.gb HTB.out (Nat.le_of_lt hBl) st.2.2.2.2.2) (by omega) (by omega)).mono ?_
    rintro e w' ⟨s, he, hs, hgb, i', hi1, hi2, htt⟩
    exact ⟨s, he, hs, hgb, i', hi2, st.next hgb htt hBgr hg⟩
  have NC := Lib.hid hCode
  obtain ⟨tn, htn⟩ : ∃ tn, tn = ts.length := ⟨_, rfl⟩
  rw [← htn] at HTr NX NC ⊢
  clear hb ht htB k1 t1 b1 hs1 hNext hCode htn
  go_enter Tryd.func7, Tryd.ntmps7
  go_wp2_with fail
  rw [← hW1, ← hgr]
  clear hW1 hgr
  refine HTr.out.mono ?_; rintro e w2 ⟨l, a, c, rfl, hrow, hvl, hl1, hl10, hg2, j2, hj2, ht2⟩
  obtain ⟨a', c', e4, hrd, hge⟩ := RdV.of_row hrow
  rw [strs_length] at e4
  cases e4
  obtain ⟨b, o, rfl, _⟩ := (show RdS w2 a c l from hrd).atS (i := 0) (by omega)
  obtain rfl : o = 0 := by
    rcases hrow.2 with ⟨h0, _⟩ | ⟨g0, cap0, cur0, h0, _⟩
    · cases h0
    · cases h0; rfl
  have hbl := hrow.lt b rfl
  have hs2 : gr + 1 ≤ w2.heap.size := by have := hg2.size; have := HGR.out; omega
  have k3 := Bxn.new w2 ⟨#[99]⟩ (.slice (some ⟨b, 0, none⟩) l.length c)
  have hw2 : w.grownBy w2 (some B) := gb_trans (below_gb B1.out _) hg2
  have st3 : Sp w (w2.alloc (.cells #[.string ⟨#[99]⟩, .slice (some ⟨b, 0, none⟩) l.length c] 24)) B ao tn cap w2.heap.size gr j2 b c l.length l := by
    refine ⟨ht2.alloc _, k3, ((K1.out.grown hg2 (fun e => by have := Option.some.inj e; omega)).below (below_new _ _)), ?_, by omega, gb_trans hw2 (World.grownBy_alloc w2 _ _)⟩
    rw [← HGR.out.2]
    exact hrow.alloc _
  have q1 := k3.c1
  obtain ⟨W3, hW3⟩ : ∃ W3, W3 = w2.alloc (.cells #[.string ⟨#[99]⟩, .slice (some ⟨b, 0, none⟩) l.length c] 24) := ⟨_, rfl⟩
  rw [← hW3] at st3
  have HVL := Lib.hid hvl
  have hcap : l.length ≤ c := by have := hrd.1; rw [strs_length] at this; omega
  have hcap2 : c ≤ 9223372036854775807 := hrd.2.1
  have hgrg : gr < w2.heap.size := by omega
  have hbg : b ≠ w2.heap.size := st3.2.2.2.2.1
  have hl2 : (l.length : Int) ≤ 10 := by omega
  have ST3 := Lib.hid st3
  clear hrow hvl hg2 ht2 hrd hge hbl hs2 k3 hw2 st3
  go_wp2_with fail
  rw [← hW3]
  clear q1 hW3
  refine (NX.out W3 w2.heap.size j2 l.length b c l.length l ST3.out hgrg (by omega) (by omega) (by omega) l.length rfl).mono ?_; rintro e w4 ⟨i, rfl, hil, st4⟩
  have ST4 := Lib.hid st4
  clear st4
  go_wp2_with fail
  refine (NX.out w4 w2.heap.size (j2 + 1) 5 b c l.length l ST4.out hgrg (by omega) (by omega) (by omega) 5 rfl).mono ?_; rintro e w5 ⟨k, rfl, hk, st5⟩
  have ST5 := Lib.hid st5
  have q1 := st5.2.1.c1
  have qf1 := st5.2.1.fz 1
  clear st5
  have K0 : Hid (∀ w', Below w5.heap.size w5 w' → w'.cell? ⟨w2.heap.size, 1, none⟩ = some (.slice (some ⟨b, 0, none⟩) l.length c) ∧ Below w5.heap.size w5 w') := fun w' hb => ⟨(hb.cell ST5.out.2.1.lt).trans q1, hb⟩
  have hic : i ≤ c := by omega
  have hiI : (i : Int) ≤ (c : Int) := by omega
  have hilI : (i : Int) < (l.length : Int) := by omega
  have hi0 : (0 : Int) ≤ (i : Int) := by omega
  have hi1I : (i : Int) + 1 ≤ (l.length : Int) := by omega
  have hi1c : (i : Int) + 1 ≤ (c : Int) := by omega
  have hi10 : (0 : Int) ≤ (i : Int) + 1 := by omega
  have hit : Int.toNat ((i : Int) + 1) = i + 1 := by omega
  have hlc : (l.length : Int) ≤ (c : Int) := by omega
  have hil1 : i + 1 ≤ l.length := by omega
  have hi1c' : i + 1 ≤ c := by omega
  have hiw : IntKind.i64.wrap ((i : Int) + 1) = (i : Int) + 1 := IntWalk.i64_in _ (by omega)
  have hbb := (ST5.out.2.2.2.1.lt b rfl)
  have hc63 : c ≤ maxLen := by
    rcases ST5.out.2.2.2.1.2 with ⟨h0, _⟩ | ⟨g0, cap0, cur0, h0, _, _, _, hm, _⟩
    · cases h0
    · cases h0; exact hm
  by_cases hk0 : k = 0
  · subst hk0
    have hA : Below w5.heap.size w5 (w5.alloc (.cells #[] 9)).drew := ((Below.refl _ _).alloc (Nat.le_refl _) _).drew
    have HOW : Hid (((w5.alloc (.cells #[] 9)).drew).ownsRow w5.heap.size 9 1 (.slice (some ⟨w5.heap.size, 0, none⟩) 0 0) 0 []) := World.ownsRow_lit (base := w5.heap.size) (e := 9) (size := 1) w5 #[] 0 (Nat.le_refl _) (by unfold maxLen; omega) rfl
    have hcells : ∀ w', Below w5.heap.size w5 w' → ∀ k u, (strs l)[k]? = some u → w'.cell? ⟨b, k, none⟩ = some u := fun w' hb k u hu => (hb.cell (p := ⟨b, k, none⟩) hbb.2).trans ((ST5.out.2.2.2.1.cellAt k (by have := (List.getElem?_eq_some_iff.1 hu).1; rw [strs_length] at this; omega)).trans hu)
    have HNA : Hid (∀ k u, (strs (l.take i))[k]? = some u → ((w5.alloc (.cells #[] 9)).drew).cell? ((⟨b, 0, none⟩ : Addr).add k) = some u) := fun k u hu => by
      rw [show (⟨b, 0, none⟩ : Addr).add k = ⟨b, k, none⟩ by cases k <;> simp [Addr.add]]
      refine hcells _ hA k u ?_
      rw [show strs (l.take i) = (strs l).take i by simp [strs, List.map_take]] at hu
      rw [List.getElem?_take] at hu
      split at hu
      · exact hu
      · cases hu
    obtain ⟨x, hif, hxc⟩ : ∃ x, (if c = i + 1 then some (⟨b, 0, none⟩ : Addr) else some ⟨b, i + 1, none⟩) = some ⟨b, x, none⟩ ∧ (c ≠ i + 1 → x = i + 1) := by
      by_cases h : c = i + 1
      · exact ⟨0, by rw [if_pos h], fun k => absurd h k⟩
      · exact ⟨i + 1, by rw [if_neg h], fun _ => rfl⟩
    have HNB : Hid (∀ w', Below w5.heap.size w5 w' → ∀ k u, (strs (l.drop (i + 1)))[k]? = some u → w'.cell? ((⟨b, x, none⟩ : Addr).add k) = some u) := fun w' hb k u hu => by
      have hx1 : x = i + 1 := hxc (fun e => by
        have := (List.getElem?_eq_some_iff.1 hu).1
        rw [strs_length, List.length_drop] at this
        omega)
      subst hx1
      rw [show (⟨b, i + 1, none⟩ : Addr).add k = ⟨b, i + 1 + k, none⟩ by simp [Addr.add]]
      refine hcells _ hb (i + 1 + k) u ?_
      rw [show strs (l.drop (i + 1)) = (strs l).drop (i + 1) by simp [strs, List.map_drop], List.getElem?_drop] at hu
      exact hu
    have HON : Hid (∀ ls : List ByteArray, ∀ u ∈ strs ls, u.oneCell' = true) := fun ls u hu => by
      obtain ⟨s, _, rfl⟩ := List.mem_map.1 hu
      rfl
    obtain ⟨N', hN'⟩ : ∃ n, 0 + i + (l.length - (i + 1)) = n := ⟨_, rfl⟩
    have qA := (K0.out _ hA).1
    have qA2 := (K0.out _ ((Below.refl _ _).alloc (Nat.le_refl _) (.cells #[] 9))).1
    have HA := Lib.hid hA
    clear hA hcells hxc
    go_wp2_with fail
    go_region_law (first
        | (refine step_append_own rfl (.tmp 16) (.tmp 20) 22 rfl w5.heap.size 9 i0 (.string ByteArray.empty) 1 16 Tryd.underlying22 hi hz0 hz1 hz2 rfl (by decide) (.slice (some ⟨w5.heap.size, 0, none⟩) 0 0) 0 [] (by simp [Act.eval, Act.put]) HOW.out ⟨b, 0, none⟩ i c (strs (l.take i)) (by simp [Act.eval, Act.put]) (by rw [strs_length, List.length_take]; omega) HNA.out (HON.out _) (by unfold maxLen; omega) (by omega) HA.out.size ?_; intro v6 w6 hown6 hgr6 hnil6; have BW6 : Below w5.heap.size w5 w6 := HA.out.grown hgr6 HA.out.size (fun k e => by have := (HOW.out.lt k e).1; omega); have q6 := (K0.out _ BW6).1)
        | (refine step_append_own rfl (.tmp 21) (.tmp 26) 22 rfl w5.heap.size 9 i0 (.string ByteArray.empty) 1 16 Tryd.underlying22 hi hz0 hz1 hz2 rfl (by decide) v6 (0 + i) _ (by simp [Act.eval, Act.put]) hown6 ⟨b, x, none⟩ (l.length - (i + 1)) (c - (i + 1)) (strs (l.drop (i + 1))) (by simp [Act.eval, Act.put]) (by rw [strs_length, List.length_drop]; omega) (HNB.out _ BW6) (HON.out _) (by unfold maxLen; omega) (by omega) BW6.size ?_; intro v7 w7 hown7 hgr7 hnil7; obtain ⟨b7, c7, rfl, hown8, hb7⟩ := of_row_some hown7 (fun e => by have h1 := (hnil6.1 (hnil7.1 e).1).1; cases h1) hN'; have BW7 : Below w5.heap.size w5 w7 := BW6.grown hgr7 BW6.size (fun k e => (hown6.lt k e).1); have qf7 := (ST5.out.2.1.below BW7).fz 1; have q7 := (ST5.out.2.1.below BW7).c1))
    all_goals
      have hl7 : [] ++ strs (l.take i) ++ strs (l.drop (i + 1)) = strs (l.take i ++ l.drop (i + 1)) := by simp [strs]
      rw [hl7] at hown8
      have hs5 := ST5.out.2.1.lt
      have st7 := ST5.out.put hBgr hgrg HGR.out.1 (below_gb BW7 _) hbb.1 (own_mono hown8 (by omega)) (by omega)
      -- END0
      obtain ⟨W8, hW8⟩ : ∃ W8, W8 = w7.setCell ⟨w2.heap.size, 1, none⟩ (.slice (some ⟨b7, 0, none⟩) N' c7) := ⟨_, rfl⟩
      rw [← hW8] at st7
      rw [← hW8]
      clear hW8
      have p0 := st7.2.1.c0
      have p1 := st7.2.1.c1
      have f0 := st7.2.2.1.fz 0
      have f1 := st7.2.2.1.fz 1
      have r0 := st7.2.2.1.c0
      have r1 := st7.2.2.1.c1
      have hng : gr ≠ w2.heap.size := by omega
      have hx9 := (st7.2.2.1.set0 ⟨#[99]⟩).set (.slice (some ⟨b7, 0, none⟩) N' c7)
      have hd := st7.done (i := j) hBgr HGR.out.1 (by omega) (by omega) (fun s hs => HVL.out.sizes s ((List.mem_append.1 hs).elim List.mem_of_mem_take List.mem_of_mem_drop))
      have ST7 := Lib.hid hx9
      have HD := Lib.hid hd
      clear hx9 hd
      go_wp2_with fail
      have j0 := ST7.out.c0
      have j1 := ST7.out.c1
      refine bodyPost_ret (v := .agg #[.string ⟨#[99]⟩, .slice (some ⟨b7, 0, none⟩) N' c7]) (by simp [results, Tryd.results7, go_sem, j0, j1]) rfl ?_
      exact HD.out
  · by_cases hk1 : k = 1
    · subst hk1
      have hx0 : ∃ x, w5.cell? ⟨b, i, none⟩ = some x := ⟨_, (ST5.out.2.2.2.1.cellAt i (by omega)).trans (List.getElem?_eq_getElem (by rw [strs_length]; omega))⟩
      have hCD := NC.out w5.drew w2.heap.size (j2 + 1 + 1) b c l.length l ST5.out.drew hgrg (by omega)
      have HCD := Lib.hid hCD
      have K1' : Hid (∀ w', w5.grownBy w' (some B) → w'.cell? ⟨w2.heap.size, 1, none⟩ = some (.slice (some ⟨b, 0, none⟩) l.length c) ∧ w5.grownBy w' (some B)) := fun w' hb => ⟨hb.cell q1 (fun e => by have := Option.some.inj e; simp at this; omega), hb⟩
      clear hCD
      go_wp2_with fail
      go_region_with (first
        | (go_at_call 12; refine HCD.out.mono ?_; rintro e w6 ⟨s, rfl, hss, hgb6, j6, hj6, st6⟩; have q6 := st6.2.1.c1; have qf6 := st6.2.2.2.1.frozenAt i; have q62 := (st6.2.2.2.1.cellAt i (by omega)).trans (List.getElem?_eq_getElem (by rw [strs_length]; omega))))
      all_goals
        have st8 := st6.store hBgr HGR.out.1 i s
        obtain ⟨W8, hW8⟩ : ∃ W8, W8 = w6.setCell ⟨b, i, none⟩ (.string s) := ⟨_, rfl⟩
        rw [← hW8] at st8
        rw [← hW8]
        clear hW8
        have p0 := st8.2.1.c0
        have p1 := st8.2.1.c1
        have f0 := st8.2.2.1.fz 0
        have f1 := st8.2.2.1.fz 1
        have r0 := st8.2.2.1.c0
        have r1 := st8.2.2.1.c1
        have hng : gr ≠ w2.heap.size := by omega
        have hx9 := (st8.2.2.1.set0 ⟨#[99]⟩).set (.slice (some ⟨b, 0, none⟩) l.length c)
        have hd := st8.done (i := j) hBgr HGR.out.1 (by omega) (by omega) (fun u hu => (List.mem_or_eq_of_mem_set hu).elim (HVL.out.sizes u) (fun e => by rw [e]; omega))
        have ST7 := Lib.hid hx9
        have HD := Lib.hid hd
        clear hx9 hd
        go_wp2_with fail
        have j0 := ST7.out.c0
        have j1 := ST7.out.c1
        refine bodyPost_ret (v := .agg #[.string ⟨#[99]⟩, .slice (some ⟨b, 0, none⟩) l.length c]) (by simp [results, Tryd.results7, go_sem, j0, j1]) rfl ?_
        exact HD.out
    · by_cases hk2 : k = 2
      · subst hk2
        obtain ⟨x, hx⟩ : ∃ x, x = l[i] := ⟨_, rfl⟩
        have hxm : x ∈ l := by rw [hx]; exact List.getElem_mem hil
        have qx : w5.cell? ⟨b, i, none⟩ = some (.string x) := (ST5.out.2.2.2.1.cellAt i (by omega)).trans (by rw [hx]; simp [strs, hil])
        have hA : Below w5.heap.size w5 (w5.alloc (.cells #[.string x] 9)).drew := ((Below.refl _ _).alloc (Nat.le_refl _) _).drew
        have HOA : Hid (((w5.alloc (.cells #[.string x] 9)).drew).ownsRow (gr + 1) 9 1 (.slice (some ⟨b, 0, none⟩) l.length c) l.length (strs l)) := ST5.out.2.2.2.1.alloc _
        have HXA : Hid (Bxn ((w5.alloc (.cells #[.string x] 9)).drew) w2.heap.size ⟨#[99]⟩ (.slice (some ⟨b, 0, none⟩) l.length c)) := ST5.out.2.1.below hA
        have HAS : Hid (gr + 1 ≤ ((w5.alloc (.cells #[.string x] 9)).drew).heap.size) := by unfold Hid; have := hA.size; omega
        have qA := HXA.out.c1
        have qA2 := (ST5.out.2.1.below (below_new w5 (.cells #[.string x] 9))).c1
        have HA := Lib.hid hA
        have hgs := ST5.out.2.1.lt
        clear hA hx
        go_wp2_with fail
        go_region_law (refine step_append_lies _ rfl (.tmp 40) (.tmp 46) 22 rfl (gr + 1) 9 i0 (.string ByteArray.empty) 1 16 Tryd.underlying22 hi hz0 hz1 hz2 rfl (by decide) (.slice (some ⟨b, 0, none⟩) l.length c) l.length _ (by simp [Act.eval]) HOA.out ⟨w5.heap.size, 0, none⟩ 1 1 [.string x] (by simp [Act.eval]) rfl (one_cell w5 _ _) (by intro u hu; simp at hu; rcases hu with rfl; rfl) (by decide) (by unfold maxLen; omega) (by omega) HAS.out (w5.heap.size + 1) (by simp [World.drew]) ?_; intro b7 c7 w7 hown7 hgr7 hat7 hlt7; have HX7 : Hid (Bxn w7 w2.heap.size ⟨#[99]⟩ (.slice (some ⟨b, 0, none⟩) l.length c)) := HXA.out.grown hgr7 (fun e => by have := Option.some.inj e; simp at this; omega); have q7 := HX7.out.c1; have qf7 := HX7.out.fz 1)
        all_goals
          have hl7 : strs l ++ [Value.string x] = strs (l ++ [x]) := by simp [strs]
          rw [hl7] at hown7
          have hb7 : b7 ≠ w2.heap.size := by
            rcases hat7 with e | e
            · have e2 : b = b7 := Option.some.inj e
              omega
            · omega
          have st9 := ST5.out.put hBgr hgrg HGR.out.1 (gb_trans (below_gb HA.out _) hgr7) hbb.1 hown7 hb7
          obtain ⟨W8, hW8⟩ : ∃ W8, W8 = w7.setCell ⟨w2.heap.size, 1, none⟩ (.slice (some ⟨b7, 0, none⟩) (l.length + 1) c7) := ⟨_, rfl⟩
          rw [← hW8] at st9
          rw [← hW8]
          clear hW8
          have p0 := st9.2.1.c0
          have p1 := st9.2.1.c1
          have f0 := st9.2.2.1.fz 0
          have f1 := st9.2.2.1.fz 1
          have r0 := st9.2.2.1.c0
          have r1 := st9.2.2.1.c1
          have hng : gr ≠ w2.heap.size := by omega
          have hx9 := (st9.2.2.1.set0 ⟨#[99]⟩).set (.slice (some ⟨b7, 0, none⟩) (l.length + 1) c7)
          have hd := st9.done (i := j) hBgr HGR.out.1 (by omega) (by omega) (fun u hu => (List.mem_append.1 hu).elim (HVL.out.sizes u) (fun h => HVL.out.sizes u (by rw [List.mem_singleton.1 h]; exact hxm)))
          have ST7 := Lib.hid hx9
          have HD := Lib.hid hd
          clear hx9 hd
          go_wp2_with fail
          have j0 := ST7.out.c0
          have j1 := ST7.out.c1
          refine bodyPost_ret (v := .agg #[.string ⟨#[99]⟩, .slice (some ⟨b7, 0, none⟩) (l.length + 1) c7]) (by simp [results, Tryd.results7, go_sem, j0, j1]) rfl ?_
          exact HD.out
      · have hk0I : ((k : Int) == 0) = false := by simp; omega
        have hk1I : ((k : Int) == 1) = false := by simp; omega
        have hk2I : ((k : Int) == 2) = false := by simp; omega
        have st8 := ST5.out
        have p0 := st8.2.1.c0
        have p1 := st8.2.1.c1
        have f0 := st8.2.2.1.fz 0
        have f1 := st8.2.2.1.fz 1
        have r0 := st8.2.2.1.c0
        have r1 := st8.2.2.1.c1
        have hng : gr ≠ w2.heap.size := by omega
        have hx9 := (st8.2.2.1.set0 ⟨#[99]⟩).set (.slice (some ⟨b, 0, none⟩) l.length c)
        have hd := st8.done (i := j) hBgr HGR.out.1 (by omega) (by omega) (HVL.out.sizes)
        have ST7 := Lib.hid hx9
        have HD := Lib.hid hd
        clear hx9 hd
        go_wp2_with fail
        have j0 := ST7.out.c0
        have j1 := ST7.out.c1
        refine bodyPost_ret (v := .agg #[.string ⟨#[99]⟩, .slice (some ⟨b, 0, none⟩) l.length c]) (by simp [results, Tryd.results7, go_sem, j0, j1]) rfl ?_
        exact HD.out
end Go.Proofs.YtkodfmpaeemaiaaDoor.C6
