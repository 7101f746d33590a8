/- Contracts of the reference's short and Format. -/
import Derived.Test.YtaggodjplgmmhaaDoorNum5
import Derived.Test.YtaggodjplgmmhaaDoorLawLong
import Derived.Deep.LoopGhost
namespace Go.Proofs.YtaggodjplgmmhaaDoor
open Go.RowKit

/-- what short gives -/
def ShortPost (N d : Nat) (w : World) (e : Ending) (w' : World) : Prop :=
  ∃ ao c, e = .returned (.tuple #[.slice ao (dig (N / d)).length c, .int .u32 ((N % d : Nat) : Int)]) ∧ Fr w.heap.size w' ao c (dig (N / d)) ∧ Below w.heap.size w w'
theorem ret_short {ao : Option Addr} {n c : Nat} {a b : Int} (h : a = b) : Ending.returned (.tuple #[.slice ao n c, .int .u32 a]) = .returned (.tuple #[.slice ao n c, .int .u32 b]) := by rw [h]

set_option maxHeartbeats 2000000 in
set_option maxRecDepth 100000 in
theorem short_num {ao : Option Addr} {n ca N : Nat} (d : Nat) {w : World} (ha : Num w ao n ca N) (hd : 0 < d) (hd2 : d < 4294967296) : Calls Tryd.prog 49 #[.slice ao n ca, .int .u32 (d : Int)] w (ShortPost N d w) := by
  obtain ⟨xs0, hn0, hrd0, hvN, hl0⟩ := ha
  have hlen0 : (dig N).length ≤ 549755813888 := by
    rw [← hvN]; exact Nat.le_trans (dig_length_val hrd0.lims) hl0
  have hn1 : n ≤ 1099511627776 := by omega
  have hcall := rTrim_num (w := w) ⟨xs0, hn0, hrd0, hvN, hl0⟩
  have HC := Lib.hid hcall
  clear hcall hn0 hrd0 hvN hl0
  go_enter Tryd.func49, Tryd.ntmps49
  go_wp2_with fail
  refine HC.out.mono ?_; rintro e w1 ⟨a1, c1, rfl, f1, b1⟩
  clear HC
  obtain ⟨m, hm⟩ : ∃ m, (dig N).length = m := ⟨_, rfl⟩
  have HM := Lib.hid hm
  rw [hm] at hlen0 ⊢
  clear hm
  rcases Nat.eq_zero_or_pos m with h0 | h0
  · subst h0
    have hN0 : N = 0 := by
      rcases Nat.eq_zero_or_pos N with e | e
      · exact e
      · have := dig_length_pos e; have := HM.out; omega
    subst hN0
    have e1 : Hid (0 / d = 0) := Nat.zero_div d
    have e2 : Hid (0 % d = 0) := Nat.zero_mod d
    have hrd := f1.rd
    go_wp2_with fail
    refine wp_loop_rounds 1 ?_
    rw [rounds_succ]
    go_wp2_with fail
    refine (rTrim_len _ _ _ _ hrd (by simp [dig_zero]) _ rfl).mono ?_; rintro e w2 ⟨a2, c2, rfl, f2, b2⟩
    go_wp2_with fail
    go_ret2
    refine ⟨a2, c2, ?_, ?_, b1.trans (b2.mono b1.size)⟩
    · rw [e1.out, e2.out, val_dig]; rfl
    · rw [e1.out]; rw [val_dig] at f2; exact f2.mono b1.size
  · obtain ⟨b, rfl, hB, hown⟩ : ∃ b, a1 = some ⟨b, 0, none⟩ ∧ w.heap.size ≤ b ∧ Own w1 b (dig N) := by
      obtain ⟨h1, h2, h3, h4⟩ := f1
      rcases h4 with ⟨_, h5, _⟩ | h5
      · have := HM.out; rw [h5] at this; simp at this; omega
      · exact h5
    have hc1 := f1.1
    have hc2 := f1.2.1
    rw [HM.out] at hc1
    obtain ⟨xs, hxs⟩ : ∃ xs, xs = dig N := ⟨_, rfl⟩
    rw [← hxs] at hown HM
    have hlx : Lims xs := by rw [hxs]; exact lims_dig N
    have hvx : Hid (val xs = N) := by show _ = _; rw [hxs, val_dig]
    clear hxs f1
    go_wp2_with fail
    go_loopw [7, 8] (fun s7 s8 wr => ∃ (k r : Nat) (cs : List Nat), k ≤ m ∧ s7 = .int .u64 r ∧ s8 = .int .i64 ((k : Int) - 1) ∧ r < d ∧ Hid (cs.length = m) ∧ Lims cs ∧ Own wr b cs ∧ Below w.heap.size w wr ∧
        Hid (∀ j, j < k → lm cs j = lm xs j) ∧ Hid (val (xs.drop k) = d * val (cs.drop k) + r)) (fun _ s8 _ => (intOf s8 + 1).toNat)
    case atStart => exact ⟨m, 0, xs, Nat.le_refl _, rfl, rfl, hd, HM.out, hlx, hown, b1, fun j _ => rfl, by
      show _ = _
      rw [val_drop_ge xs _ (by rw [HM.out]; exact Nat.le_refl _)]; omega⟩
    case round =>
      obtain ⟨k, r, cs, hk, rfl, rfl, hr, hlen, hlc, hownr, hbl, hlow, hv⟩ := hrel
      by_cases hk0 : 0 < k
      · have hx := hlc (k - 1)
        have hcell := hownr.cell (j := k - 1) (by rw [hlen.out]; omega)
        have hfro := hownr.frozen (k - 1)
        obtain ⟨s, hs⟩ : ∃ s : Nat, s = lm cs (k - 1) + r * 4294967296 := ⟨_, rfl⟩
        have hor : bits BinOp.or IntKind.u64 ((r : Int) * 4294967296) ((lm cs (k - 1) : Nat) : Int) = (s : Int) := by rw [hs]; exact or_join r _ (by omega) hx
        have hsb : (s : Int) ≤ 18446744073709551615 := by omega
        have hq := quo_lt s d r _ hr hx hs
        have hq1 : (s : Int) / (d : Int) ≤ 4294967295 := by
          have e : (s : Int) / (d : Int) = ((s / d : Nat) : Int) := (Int.natCast_ediv s d).symm
          rw [e]; omega
        have hq0 : 0 ≤ (s : Int) / (d : Int) := Int.ediv_nonneg (by omega) (by omega)
        have hsh := Lib.hid hs
        clear hs hq
        go_wp2_with fail
        have e1 : (s : Int) / (d : Int) = ((s / d : Nat) : Int) := (Int.natCast_ediv s d).symm
        have e2 : (s : Int) % (d : Int) = ((s % d : Nat) : Int) := (Int.natCast_emod s d).symm
        rw [e1] at hq1
        have hown2 := hownr.setCell (j := k - 1) (by rw [hlen.out]; omega) (s / d)
        rw [← e1] at hown2
        have hk1 : k - 1 < cs.length := by rw [hlen.out]; omega
        have hk3 : k = k - 1 + 1 := by omega
        have hkm : k - 1 < xs.length := by rw [HM.out]; omega
        go_roundw
        case rel => exact ⟨k - 1, s % d, _, by omega, by rw [e2], by go_num, Nat.mod_lt _ hd, (List.length_set ..).trans hlen.out, lims_set hlc _ _ (by omega), hown2, hbl.setCell hB _,
          fun j hj => by rw [lm_set _ _ _ _ hk1, if_neg (by omega)]; exact hlow.out j (by omega), by
          show _ = _
          rw [val_drop xs _ hkm, val_drop (cs.set (k - 1) (s / d)) _ (by rw [List.length_set]; exact hk1), lm_set _ _ _ _ hk1, if_pos rfl, drop_set_lt _ _ _ _ (by omega)]
          have hv2 := hv.out
          rw [hk3] at hv2
          rw [← hlow.out (k - 1) (by omega)]
          exact short_step _ _ _ _ _ _ _ _ hv2 hsh.out (Nat.div_add_mod s d).symm⟩
        case measure => simp [intOf]; omega
      · obtain rfl : k = 0 := by omega
        have hv2 := hv.out
        rw [List.drop_zero, List.drop_zero, hvx.out] at hv2
        have hmo : Hid (N % d = r) := by show _ = _; rw [hv2, Nat.mul_add_mod]; exact Nat.mod_eq_of_lt hr
        have hq : Hid (val cs = N / d) := by show _ = _; rw [hv2, Nat.mul_add_div hd, Nat.div_eq_of_lt hr]; omega
        have hrd := hownr.rd hlc c1 (by rw [hlen.out]; exact hc1) hc2
        have hrb : r < 4294967296 := by omega
        clear hv2
        go_wp2_with fail
        refine (rTrim_len _ _ _ _ hrd (by rw [hlen.out]; omega) _ hlen.out.symm).mono ?_; rintro e w2 ⟨a2, c2, rfl, f2, b2⟩
        rw [hq.out] at f2 ⊢
        go_wp2_with fail
        go_ret2
        exact ⟨a2, c2, ret_short (by rw [hmo.out]), f2.mono hbl.size, hbl.trans (b2.mono hbl.size)⟩

/-- the digits of a number, the lowest one first; none for 0 -/
def rl (n : Nat) : List UInt8 := if n = 0 then [] else (Lib.decDigits n).reverse
theorem rl_pos (n : Nat) (h : 0 < n) : rl n = UInt8.ofNat (48 + n % 10) :: rl (n / 10) := by
  unfold rl
  rw [if_neg (by omega)]
  by_cases h1 : n < 10
  · rw [dec_small h1, if_pos (by omega), show n % 10 = n by omega]; rfl
  · rw [dec_big (by omega), if_neg (by omega), List.reverse_append]; rfl
theorem rl_zero : rl 0 = [] := rfl
theorem rl_length (k n : Nat) (h : n < 10 ^ (k + 1)) : (rl n).length ≤ k + 1 := by
  unfold rl
  split
  · simp
  · rw [List.length_reverse]; exact dec_len_le k n h
/-- bytes as values -/
def byv (l : List UInt8) : List Value := l.map fun b => Value.int .u8 (b.toNat : Int)
theorem byv_get (l : List UInt8) (j : Nat) (hj : j < l.length) : (byv l)[j]? = some (.int .u8 (l[j].toNat : Int)) := by simp [byv, hj]
theorem byv_getD (l : List UInt8) (j : Nat) (hj : j < l.length) : (byv l)[j]? = some (.int .u8 ((l.getD j 0).toNat : Int)) := by simp [byv, hj, List.getD]
theorem byv_length (l : List UInt8) : (byv l).length = l.length := by simp [byv]

/-- a block of bytes of the call's own, its last i laid -/
def Byr (w : World) (g i : Nat) (l : List UInt8) : Prop := ∃ cur : Array Value, w.heap[g]? = some (.cells cur 5 (0, 0)) ∧ cur.size = l.length ∧ (∀ p (hp : p < l.length), l.length - i ≤ p → cur[p]? = some (.int .u8 (l[p].toNat : Int))) ∧ ∀ p, p < l.length - i → cur[p]? = some (.int .u8 0)
theorem Byr.cell {w : World} {g i : Nat} {l : List UInt8} (h : Byr w g i l) (hi : i < l.length) : w.cell? ⟨g, l.length - 1 - i, none⟩ = some (.int .u8 0) := by
  obtain ⟨cur, h1, h2, h3, h4⟩ := h
  exact cell_of_cells h1 (h4 _ (by omega))
theorem Byr.frozen {w : World} {g i : Nat} {l : List UInt8} (h : Byr w g i l) (j : Nat) : w.frozen? ⟨g, j, none⟩ = false := by
  obtain ⟨cur, h1, h2, h3, h4⟩ := h
  simp [World.frozen?, h1]
theorem Byr.set {w : World} {g i : Nat} {l : List UInt8} (h : Byr w g i l) (hi : i < l.length) : Byr (w.setCell ⟨g, l.length - 1 - i, none⟩ (.int .u8 (l[l.length - 1 - i].toNat : Int))) g (i + 1) l := by
  obtain ⟨cur, h1, h2, h3, h4⟩ := h
  refine ⟨cur.setIfInBounds (l.length - 1 - i) (.int .u8 (l[l.length - 1 - i].toNat : Int)), ?_, by simpa using h2, fun p hp hj => ?_, fun p hp => ?_⟩
  · simp [World.setCell, Array.getElem?_modify, h1]
  · rw [Array.getElem?_setIfInBounds]
    by_cases e : l.length - 1 - i = p
    · subst e; rw [if_pos rfl, if_pos (by omega)]
    · rw [if_neg e]; exact h3 p hp (by omega)
  · rw [Array.getElem?_setIfInBounds, if_neg (by omega)]; exact h4 p (by omega)
theorem Byr.text {w : World} {g : Nat} {l : List UInt8} (h : Byr w g l.length l) : (convert 50 9 (.slice (some ⟨g, 0, none⟩) l.length l.length)).run Tryd.prog w = .ok (.string ⟨l.toArray⟩) w :=
  run_convert_bytes_back (P := Tryd.prog) w 50 9 5 ⟨g, 0, none⟩ l.length l Tryd.underlying50 Tryd.underlying5 Tryd.underlying9 (fun j hj => by
    obtain ⟨cur, h1, h2, h3, h4⟩ := h
    rw [Addr.add_lit, Nat.zero_add]
    exact cell_of_cells h1 (h3 j hj (by omega)))
theorem Byr.made {w w' : World} {l : List UInt8} (h : w'.ownsRow w.heap.size 5 1 (.slice (some ⟨w.heap.size, 0, none⟩) l.length l.length) l.length (madeCells (Value.int .u8 0).cells (l.length * 1)).toList) : Byr w' w.heap.size 0 l := by
  obtain ⟨cur, h1, h2, h3, h4⟩ := Byt.made h
  exact ⟨cur, h1, h2, fun p hp hj => by omega, fun p hp => h4 p (by omega) (by omega)⟩

set_option maxHeartbeats 4000000 in
set_option maxRecDepth 100000 in
theorem rFormat_num {ao : Option Addr} {n ca N : Nat} {w : World} (ha : Num w ao n ca N) (hrl : (rl N).length ≤ 1001) : Calls Tryd.prog 36 #[.slice ao n ca] w fun e w' => e = .returned (.string ⟨(Lib.decDigits N).toArray⟩) ∧ Below w.heap.size w w' := by
  obtain ⟨K, hsm⟩ := ha.smp
  obtain ⟨i0, hi, hz0, hz1, hz2⟩ := info_parts infoB8
  go_enter Tryd.func36, Tryd.ntmps36
  go_wp2_with fail
  refine (rTrim_num ha).mono ?_; rintro e w1 ⟨a1, c1, rfl, f1, b1⟩
  go_wp2_with fail
  go_loopg [0, 3] N (fun gk s0 s3 wr => ∃ (bs : List UInt8) (a0 : Option Addr) (c0 : Nat), s0 = .slice a0 (dig gk).length c0 ∧ Fr w.heap.size wr a0 c0 (dig gk) ∧ gk ≤ N ∧ wr.ownsRow w.heap.size 5 1 s3 bs.length (byv bs) ∧ Hid (bs ++ rl gk = rl N) ∧ Below w.heap.size w wr)
  case atStart => exact ⟨[], a1, c1, rfl, f1, Nat.le_refl _, World.ownsRow_nil _ _ _ _, rfl, b1⟩
  case round =>
    obtain ⟨bs, a0, c0, rfl, f0, hle, hown, hbs, hbl⟩ := hrel
    have hsz := hbl.size
    have hbl2 : bs.length ≤ 1001 := by
      have := congrArg List.length hbs.out; rw [List.length_append] at this; omega
    have n0 := Num.of_fr f0 (Sm.of_le hsm hle)
    rcases Nat.eq_zero_or_pos gk with h0 | h0
    · subst h0
      have hbN : bs = rl N := by have := hbs.out; rwa [rl_zero, List.append_nil] at this
      rcases Nat.eq_zero_or_pos N with hz | hz
      · have h1 : bs = [] := by rw [hbN, hz, rl_zero]
        subst h1
        have hd0 : Hid (Lib.decDigits N = [48]) := by show _ = _; rw [hz, dec_small (by omega)]; rfl
        rcases hown.2 with ⟨rfl, _⟩ | ⟨g, cap, cur, rfl, _⟩
        all_goals
          rw [dig0]
          go_wp2_with fail
          go_ret
          exact ⟨ret_str hd0.out.symm, hbl⟩
      · obtain ⟨l, hl⟩ : ∃ l, l = Lib.decDigits N := ⟨_, rfl⟩
        have hbl3 : bs = l.reverse := by rw [hbN, hl]; exact if_neg (by omega)
        have hlp : 0 < l.length := by rw [hl]; exact dec_pos N
        obtain ⟨m, hm⟩ : ∃ m, m = l.length := ⟨_, rfl⟩
        have hbm : bs.length = m := by rw [hbl3, List.length_reverse, hm]
        have HL := Lib.hid hl
        rcases hown.2 with ⟨rfl, hn0⟩ | ⟨g, cap, cur, rfl, hB, hg, hnc, hcm, hcs, htk⟩
        · omega
        · have hcells := hown.cells (g := g) rfl
          have hc0 : ∀ j, j < m → wr.cell? ⟨g, j, none⟩ = some (.int .u8 ((l.reverse.getD j 0).toNat : Int)) := fun j hj => by
            have h1 := byv_getD bs j (by omega)
            have h2 := hcells j _ h1
            rw [Addr.add_lit, Nat.zero_add] at h2
            rw [h2, hbl3]
          have HC0 := Lib.hid hc0
          have hglt : g < wr.heap.size := (hown.lt g rfl).2
          have hmp : 0 < m := by omega
          have hmb : m ≤ 1001 := by omega
          have hd : ((m : Int) == 0) = false := beq_eq_false_iff_ne.2 (by omega)
          rw [hbm]
          rw [hbm] at hnc
          have hcmx : cap ≤ 9223372036854775807 := by unfold maxLen at hcm; omega
          have HM := Lib.hid hm
          clear hbN hl hbl3 hbm hcells hc0 hg hcs htk hown hm hbs hcm
          rw [dig0]
          go_wp2_with (at_make; refine wpList_make_full _ rfl _ _ 50 rfl wr.heap.size 5 i0 (.int .u8 0) 1 Tryd.underlying50 hi hz0 hz1 _ _ _ _ m rfl rfl (by omega) (by omega) (by rw [hz2]; omega) (by unfold maxLen; omega) (Nat.le_refl _) ?_; intro w5 hown5 hgr5)
          have hb5 : Below wr.heap.size wr w5 := (Below.refl _ _).grown hgr5 (Nat.le_refl _) (fun k hk => by cases hk)
          have hby : Byr w5 wr.heap.size 0 l := by
            have hmm := HM.out
            rw [hmm] at hown5
            exact Byr.made hown5
          have hcel : ∀ j, j < m → w5.cell? ⟨g, j, none⟩ = some (.int .u8 ((l.reverse.getD j 0).toNat : Int)) := fun j hj => (hb5.cell (p := ⟨g, j, none⟩) hglt).trans (HC0.out j hj)
          have hbl5 := hbl.trans (hb5.mono hsz)
          obtain ⟨g2, hg2⟩ : ∃ g, g = wr.heap.size := ⟨_, rfl⟩
          rw [← hg2] at hby hglt ⊢
          have hgw2 : w.heap.size ≤ g2 := by omega
          have hgg : g ≠ g2 := by omega
          clear hown5 hgr5 hb5 hg2 hsz hi hz0 hz1 hz2
          go_wp2_with fail
          obtain ⟨wo, rfl⟩ : ∃ wo : World, wo = wr := ⟨_, rfl⟩
          go_loopw [33] (fun s33 wx => ∃ i : Nat, i ≤ m ∧ s33 = .int .i64 i ∧ Byr wx g2 i l ∧ Below w.heap.size w wx ∧ Hid (∀ j, j < m → wx.cell? ⟨g, j, none⟩ = some (.int .u8 ((l.reverse.getD j 0).toNat : Int)))) (fun s33 _ => m - (intOf s33).toNat)
          case atStart => exact ⟨0, by omega, rfl, hby, hbl5, hcel⟩
          case round =>
            obtain ⟨i, hi, rfl, hbr, hbx, hce⟩ := hrel
            by_cases hlt : i < m
            · have hil : i < l.length := by rw [← HM.out]; exact hlt
              have hc1 := hce.out i hlt
              have hcw := hbr.cell hil
              have hfw := hbr.frozen (l.length - 1 - i)
              have hset := hbr.set hil
              have hlr : i < l.reverse.length := by rw [List.length_reverse]; exact hil
              have hgd : l.reverse.getD i 0 = l[l.length - 1 - i] := by
                rw [List.getD, List.getElem?_eq_getElem hlr, Option.getD_some, List.getElem_reverse]
              rw [hgd] at hc1
              obtain ⟨v, hv⟩ : ∃ v, v = l[l.length - 1 - i].toNat := ⟨_, rfl⟩
              rw [← hv] at hc1 hset
              rw [← HM.out] at hcw hfw hset
              have hset2 := Lib.hid hset
              clear hgd hv hset hil hlr
              go_wp2_with fail
              go_roundw
              case rel => exact ⟨i + 1, by omega, by go_num, hset2.out, hbx.setCell hgw2 _, fun j hj => (World.cell?_of_block (a := ⟨g, j, none⟩) (Below.heap_setCell _ _ _ _ (fun e => hgg e))).trans (hce.out j hj)⟩
              case measure => simp [intOf]; omega
            · obtain rfl : i = m := by omega
              have ht : (convert 50 9 (.slice (some ⟨g2, 0, none⟩) i i)).run Tryd.prog wr = .ok (.string ⟨l.toArray⟩) wr := by
                have h1 := hbr
                have hmm := HM.out
                rw [hmm] at h1
                have h2 := h1.text
                rwa [← hmm] at h2
              clear hce hbr
              go_wp2_with fail
              go_ret
              exact ⟨ret_str HL.out, hbx⟩
    · have hpos := dig_length_pos h0
      have hl1 := f0.1
      have hl2 := f0.2.1
      obtain ⟨r, hr⟩ : ∃ r, r = gk % 10 := ⟨_, rfl⟩
      have hr9 : r ≤ 9 := by omega
      have hnew : Hid (bs ++ [UInt8.ofNat (48 + r)] ++ rl (gk / 10) = rl N) := by
        show _ = _; rw [← hbs.out, rl_pos gk h0, hr, List.append_assoc]; rfl
      have hdig : ((48 + r : Nat) : Int) = ((UInt8.ofNat (48 + r)).toNat : Int) := by rw [toNat_digit r (by omega)]
      have HR := Lib.hid hr
      have hdlt : gk / 10 < gk := by omega
      clear hr
      go_wp2_with fail
      refine (short_num 10 n0 (by omega) (by omega)).mono ?_; rintro e w2 ⟨a2, c2, rfl, f2, b2⟩
      rw [← HR.out]
      have hsz2 := Nat.le_trans hsz b2.size
      have hown2 : w2.ownsRow w.heap.size 5 1 u3 bs.length (byv bs) := hown.kept (row := none) (grownBy_below b2 (Nat.le_refl _) none) (by cases hv : u3.ownBlock <;> simp)
      have hb2 := hbl.trans (b2.mono hsz)
      go_wp2_with (at_builtin; refine wpList_append_own_at _ rfl _ _ 50 rfl w.heap.size 5 i0 (.int .u8 0) 1 1 Tryd.underlying50 hi hz0 hz1 hz2 rfl (by omega) _ _ _ rfl (hown2.alloc _) ⟨w2.heap.size, 0, none⟩ 1 1 [.int .u8 (48 + (r : Int))] rfl rfl (cell_one_new _ _ _) (by intro u hu; simp at hu; subst hu; rfl) (by unfold maxLen; omega) (by omega) (by simp; omega) ?_)
      intro v' w3 hown3 hgr3 _ hloc
      have hl3 : ∀ a, a2 = some a → some a.block ≠ u3.ownBlock := fun a ha e => by
        subst ha
        have h1 := f2.block_lt.1
        have h2 := (hown.lt a.block e.symm).2
        omega
      have hf3 : Fr w.heap.size w3 a2 c2 (dig (gk / 10)) := ((f2.alloc _).grown hgr3 hl3).mono hsz
      have hb3 : Below w.heap.size w w3 := (hb2.alloc hsz2 _).grown hgr3 (by simp; omega) (fun k hk => (hown2.lt k hk).1)
      have e8 : (48 : Int) + (r : Int) = ((UInt8.ofNat (48 + r)).toNat : Int) := by rw [← hdig]; omega
      have hown4 : w3.ownsRow w.heap.size 5 1 v' (bs ++ [UInt8.ofNat (48 + r)]).length (byv (bs ++ [UInt8.ofNat (48 + r)])) := by
        rw [List.length_append, show byv (bs ++ [UInt8.ofNat (48 + r)]) = byv bs ++ [Value.int .u8 (48 + (r : Int))] by simp only [byv, List.map_append, List.map_cons, List.map_nil, e8]]
        exact hown3
      clear hown3 hgr3 hloc hl3 e8
      go_wp2_with fail
      go_roundg (gk / 10)
      case measure => exact hdlt
      case rel => exact ⟨bs ++ [UInt8.ofNat (48 + r)], a2, c2, rfl, hf3, by omega, hown4, hnew.out, hb3⟩
end Go.Proofs.YtaggodjplgmmhaaDoor
