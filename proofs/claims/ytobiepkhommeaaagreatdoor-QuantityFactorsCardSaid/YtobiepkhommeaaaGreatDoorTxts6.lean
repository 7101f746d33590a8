import Derived.Test.YtobiepkhommeaaaGreatDoorTxts
import Derived.Laws.IdiomStrings
import Derived.Test.YtobiepkhommeaaaGreatDoorRDivs
import Derived.Deep.LoopGhost
import Derived.Lib.ConvBytes
/- Bytes in memory: what the walks over made texts share. -/
namespace Go.Proofs.YtobiepkhommeaaaGreatDoor
open Go.RowKit

theorem cell_of_cells {w : World} {b j : Nat} {cs : Array Value} {t : TypeId} {fr : Nat × Nat} {v : Value} (h : w.heap[b]? = some (.cells cs t fr)) (hj : cs[j]? = some v) : w.cell? ⟨b, j, none⟩ = some v := by
  simp [World.cell?, h, hj]
theorem infoB8 : (Tryz.prog.info? 5).map (fun i => (i.zero, i.size, i.bytes)) = some (some (.int .u8 0), 1, 1) := by kernel_rfl
/-- the text that the law makes -/
def btx (k : Nat) : List UInt8 := (List.range k).map fun i => UInt8.ofNat (49 + i % 9)
theorem btx_length (k : Nat) : (btx k).length = k := by simp [btx]
theorem btx_get (k j : Nat) (hj : j < (btx k).length) : (btx k)[j].toNat = 49 + j % 9 := by
  simp only [btx, List.getElem_map, List.getElem_range, UInt8.toNat_ofNat']
  omega
theorem btx_good (k : Nat) (hk : 0 < k) : Good (btx k) := by
  refine ⟨fun c hc => ?_, ?_, ?_⟩
  · obtain ⟨j, hj, rfl⟩ := List.getElem_of_mem hc
    unfold isd; rw [btx_get k j hj]; omega
  · intro e; have := btx_length k; rw [e] at this; simp at this; omega
  · right
    rw [List.head?_eq_getElem?, List.getElem?_eq_getElem (by rw [btx_length]; exact hk)]
    intro e
    have := congrArg UInt8.toNat (Option.some.inj e)
    rw [btx_get k 0] at this
    have h2 : (48 : UInt8).toNat = 48 := rfl
    omega

/-- a block of n bytes of the call's own, the first i of them laid -/
def Byt (w : World) (g n i : Nat) : Prop := ∃ cur : Array Value, w.heap[g]? = some (.cells cur 5 (0, 0)) ∧ cur.size = n ∧ (∀ j, j < i → cur[j]? = some (.int .u8 ((49 + j % 9 : Nat) : Int))) ∧ ∀ j, i ≤ j → j < n → cur[j]? = some (.int .u8 0)
theorem Byt.cell {w : World} {g n i : Nat} (h : Byt w g n i) (hi : i < n) : w.cell? ⟨g, i, none⟩ = some (.int .u8 0) := by
  obtain ⟨cur, h1, h2, h3, h4⟩ := h
  exact cell_of_cells h1 (h4 i (Nat.le_refl _) hi)
theorem Byt.frozen {w : World} {g n i : Nat} (h : Byt w g n i) (j : Nat) : w.frozen? ⟨g, j, none⟩ = false := by
  obtain ⟨cur, h1, h2, h3, h4⟩ := h
  simp [World.frozen?, h1]
theorem Byt.set {w : World} {g n i : Nat} (h : Byt w g n i) (hi : i < n) : Byt (w.setCell ⟨g, i, none⟩ (.int .u8 ((49 + i % 9 : Nat) : Int))) g n (i + 1) := by
  obtain ⟨cur, h1, h2, h3, h4⟩ := h
  refine ⟨cur.setIfInBounds i (.int .u8 ((49 + i % 9 : Nat) : Int)), ?_, by simpa using h2, fun j hj => ?_, fun j hj hn => ?_⟩
  · simp [World.setCell, Array.getElem?_modify, h1]
  · rw [Array.getElem?_setIfInBounds]
    by_cases e : i = j
    · subst e; rw [if_pos rfl, if_pos (by omega)]
    · rw [if_neg e]; exact h3 j (by omega)
  · rw [Array.getElem?_setIfInBounds, if_neg (by omega)]; exact h4 j (by omega) hn
theorem Byt.below {B : Nat} {w w' : World} {g n i : Nat} (h : Byt w g n i) (hb : Below B w w') (hg : g < B) : Byt w' g n i := by
  obtain ⟨cur, h1, h2⟩ := h
  exact ⟨cur, (hb.block g hg).trans h1, h2⟩
theorem Byt.lt {w : World} {g n i : Nat} (h : Byt w g n i) : g < w.heap.size := by
  obtain ⟨cur, h1, _⟩ := h
  exact (Array.getElem?_eq_some_iff.1 h1).1
theorem Byt.text {w : World} {g n : Nat} (h : Byt w g n n) : (convert 125 9 (.slice (some ⟨g, 0, none⟩) n n)).run Tryz.prog w = .ok (.string ⟨(btx n).toArray⟩) w := by
  have := run_convert_bytes_back (P := Tryz.prog) w 125 9 5 ⟨g, 0, none⟩ n (btx n) Tryz.underlying125 Tryz.underlying5 Tryz.underlying9 (fun j hj => by
    obtain ⟨cur, h1, h2, h3, h4⟩ := h
    rw [Addr.add_lit, Nat.zero_add, btx_get n j hj]
    exact cell_of_cells h1 (h3 j (by rw [btx_length] at hj; exact hj)))
  rwa [btx_length] at this
theorem Byt.made {w w' : World} {n : Nat} (h : w'.ownsRow w.heap.size 5 1 (.slice (some ⟨w.heap.size, 0, none⟩) n n) n (madeCells (Value.int .u8 0).cells (n * 1)).toList) : Byt w' w.heap.size n 0 := by
  have e : (madeCells (Value.int .u8 0).cells (n * 1)).toList = List.replicate n (Value.int .u8 0) := by
    rw [show (Value.int .u8 0).cells = #[Value.int .u8 0] from rfl, toList_madeCells_one, Nat.mul_one]
  rw [e] at h
  obtain ⟨h1, h2⟩ := h
  rcases h2 with ⟨h2, _⟩ | ⟨g', cap', cur, hv, hb, hg, hn, hc, hs, ht⟩
  · cases h2
  · cases hv
    have hs' : cur.size = n := by simpa using hs
    have e2 : cur.toList = List.replicate n (Value.int .u8 0) := by
      rw [← ht, List.take_of_length_le]; simp [hs']
    refine ⟨cur, hg, hs', fun j hj => by omega, fun j _ hj => ?_⟩
    rw [← Array.getElem?_toList, e2, List.getElem?_replicate, if_pos hj]

end Go.Proofs.YtobiepkhommeaaaGreatDoor
/- Contracts of the reference's short and Format. -/
namespace Go.Proofs.YtobiepkhommeaaaGreatDoor
open Go.RowKit

/-- the digits of a number, the lowest one first; none for 0 -/
def rl (n : Nat) : List UInt8 := if n = 0 then [] else (Lib.decDigits n).reverse
theorem rl_pos (n : Nat) (h : 0 < n) : rl n = UInt8.ofNat (48 + n % 10) :: rl (n / 10) := by
  unfold rl
  rw [if_neg (by omega)]
  by_cases h1 : n < 10
  · rw [dec_small h1, if_pos (by omega), show n % 10 = n by omega]; rfl
  · rw [dec_big (by omega), if_neg (by omega), List.reverse_append]; rfl
theorem rl_zero : rl 0 = [] := rfl
theorem rl_length (k n : Nat) (h : n < 10 ^ (k + 1)) : (rl n).length ≤ k + 1 := by
  unfold rl
  split
  · simp
  · rw [List.length_reverse]; exact dec_len_le k n h
/-- bytes as values -/
def byv (l : List UInt8) : List Value := l.map fun b => Value.int .u8 (b.toNat : Int)
theorem byv_get (l : List UInt8) (j : Nat) (hj : j < l.length) : (byv l)[j]? = some (.int .u8 (l[j].toNat : Int)) := by simp [byv, hj]
theorem byv_getD (l : List UInt8) (j : Nat) (hj : j < l.length) : (byv l)[j]? = some (.int .u8 ((l.getD j 0).toNat : Int)) := by simp [byv, hj, List.getD]
theorem byv_length (l : List UInt8) : (byv l).length = l.length := by simp [byv]

/-- a block of bytes of the call's own, its last i laid -/
def Byr (w : World) (g i : Nat) (l : List UInt8) : Prop := ∃ cur : Array Value, w.heap[g]? = some (.cells cur 5 (0, 0)) ∧ cur.size = l.length ∧ (∀ p (hp : p < l.length), l.length - i ≤ p → cur[p]? = some (.int .u8 (l[p].toNat : Int))) ∧ ∀ p, p < l.length - i → cur[p]? = some (.int .u8 0)
theorem Byr.cell {w : World} {g i : Nat} {l : List UInt8} (h : Byr w g i l) (hi : i < l.length) : w.cell? ⟨g, l.length - 1 - i, none⟩ = some (.int .u8 0) := by
  obtain ⟨cur, h1, h2, h3, h4⟩ := h
  exact cell_of_cells h1 (h4 _ (by omega))
theorem Byr.frozen {w : World} {g i : Nat} {l : List UInt8} (h : Byr w g i l) (j : Nat) : w.frozen? ⟨g, j, none⟩ = false := by
  obtain ⟨cur, h1, h2, h3, h4⟩ := h
  simp [World.frozen?, h1]
theorem Byr.set {w : World} {g i : Nat} {l : List UInt8} (h : Byr w g i l) (hi : i < l.length) : Byr (w.setCell ⟨g, l.length - 1 - i, none⟩ (.int .u8 (l[l.length - 1 - i].toNat : Int))) g (i + 1) l := by
  obtain ⟨cur, h1, h2, h3, h4⟩ := h
  refine ⟨cur.setIfInBounds (l.length - 1 - i) (.int .u8 (l[l.length - 1 - i].toNat : Int)), ?_, by simpa using h2, fun p hp hj => ?_, fun p hp => ?_⟩
  · simp [World.setCell, Array.getElem?_modify, h1]
  · rw [Array.getElem?_setIfInBounds]
    by_cases e : l.length - 1 - i = p
    · subst e; rw [if_pos rfl, if_pos (by omega)]
    · rw [if_neg e]; exact h3 p hp (by omega)
  · rw [Array.getElem?_setIfInBounds, if_neg (by omega)]; exact h4 p (by omega)
theorem Byr.text {w : World} {g : Nat} {l : List UInt8} (h : Byr w g l.length l) : (convert 125 9 (.slice (some ⟨g, 0, none⟩) l.length l.length)).run Tryz.prog w = .ok (.string ⟨l.toArray⟩) w :=
  run_convert_bytes_back (P := Tryz.prog) w 125 9 5 ⟨g, 0, none⟩ l.length l Tryz.underlying125 Tryz.underlying5 Tryz.underlying9 (fun j hj => by
    obtain ⟨cur, h1, h2, h3, h4⟩ := h
    rw [Addr.add_lit, Nat.zero_add]
    exact cell_of_cells h1 (h3 j hj (by omega)))
theorem Byr.made {w w' : World} {l : List UInt8} (h : w'.ownsRow w.heap.size 5 1 (.slice (some ⟨w.heap.size, 0, none⟩) l.length l.length) l.length (madeCells (Value.int .u8 0).cells (l.length * 1)).toList) : Byr w' w.heap.size 0 l := by
  obtain ⟨cur, h1, h2, h3, h4⟩ := Byt.made h
  exact ⟨cur, h1, h2, fun p hp hj => by omega, fun p hp => h4 p (by omega) (by omega)⟩

set_option maxHeartbeats 4000000 in
set_option maxRecDepth 100000 in
theorem rFormat_num {ao : Option Addr} {n ca N : Nat} {w : World} (ha : Num w ao n ca N) (hrl : (rl N).length ≤ 1001) : Calls Tryz.prog 71 #[.slice ao n ca] w fun e w' => e = .returned (.string ⟨(Lib.decDigits N).toArray⟩) ∧ Below w.heap.size w w' := by
  obtain ⟨K, hsm⟩ := ha.smp
  obtain ⟨i0, hi, hz0, hz1, hz2⟩ := info_parts infoB8
  go_enter Tryz.func71, Tryz.ntmps71
  go_wp2_with fail
  refine (rTrim_num ha).mono ?_; rintro e w1 ⟨a1, c1, rfl, f1, b1⟩
  go_wp2_with fail
  go_loopg [0, 3] N (fun gk s0 s3 wr => ∃ (bs : List UInt8) (a0 : Option Addr) (c0 : Nat), s0 = .slice a0 (dig gk).length c0 ∧ Fr w.heap.size wr a0 c0 (dig gk) ∧ gk ≤ N ∧ wr.ownsRow w.heap.size 5 1 s3 bs.length (byv bs) ∧ Hid (bs ++ rl gk = rl N) ∧ Below w.heap.size w wr)
  case atStart => exact ⟨[], a1, c1, rfl, f1, Nat.le_refl _, World.ownsRow_nil _ _ _ _, rfl, b1⟩
  case round =>
    obtain ⟨bs, a0, c0, rfl, f0, hle, hown, hbs, hbl⟩ := hrel
    have hsz := hbl.size
    have hbl2 : bs.length ≤ 1001 := by
      have := congrArg List.length hbs.out; rw [List.length_append] at this; omega
    have n0 := Num.of_fr f0 (Sm.of_le hsm hle)
    rcases Nat.eq_zero_or_pos gk with h0 | h0
    · subst h0
      have hbN : bs = rl N := by have := hbs.out; rwa [rl_zero, List.append_nil] at this
      rcases Nat.eq_zero_or_pos N with hz | hz
      · have h1 : bs = [] := by rw [hbN, hz, rl_zero]
        subst h1
        have hd0 : Hid (Lib.decDigits N = [48]) := by show _ = _; rw [hz, dec_small (by omega)]; rfl
        rcases hown.2 with ⟨rfl, _⟩ | ⟨g, cap, cur, rfl, _⟩
        all_goals
          rw [dig0]
          go_wp2_with fail
          go_ret
          exact ⟨ret_str hd0.out.symm, hbl⟩
      · obtain ⟨l, hl⟩ : ∃ l, l = Lib.decDigits N := ⟨_, rfl⟩
        have hbl3 : bs = l.reverse := by rw [hbN, hl]; exact if_neg (by omega)
        have hlp : 0 < l.length := by rw [hl]; exact dec_pos N
        obtain ⟨m, hm⟩ : ∃ m, m = l.length := ⟨_, rfl⟩
        have hbm : bs.length = m := by rw [hbl3, List.length_reverse, hm]
        have HL := Lib.hid hl
        rcases hown.2 with ⟨rfl, hn0⟩ | ⟨g, cap, cur, rfl, hB, hg, hnc, hcm, hcs, htk⟩
        · omega
        · have hcells := hown.cells (g := g) rfl
          have hc0 : ∀ j, j < m → wr.cell? ⟨g, j, none⟩ = some (.int .u8 ((l.reverse.getD j 0).toNat : Int)) := fun j hj => by
            have h1 := byv_getD bs j (by omega)
            have h2 := hcells j _ h1
            rw [Addr.add_lit, Nat.zero_add] at h2
            rw [h2, hbl3]
          have HC0 := Lib.hid hc0
          have hglt : g < wr.heap.size := (hown.lt g rfl).2
          have hmp : 0 < m := by omega
          have hmb : m ≤ 1001 := by omega
          have hd : ((m : Int) == 0) = false := beq_eq_false_iff_ne.2 (by omega)
          rw [hbm]
          rw [hbm] at hnc
          have hcmx : cap ≤ 9223372036854775807 := by unfold maxLen at hcm; omega
          have HM := Lib.hid hm
          clear hbN hl hbl3 hbm hcells hc0 hg hcs htk hown hm hbs hcm
          rw [dig0]
          go_wp2_with (at_make; refine wpList_make_full _ rfl _ _ 125 rfl wr.heap.size 5 i0 (.int .u8 0) 1 Tryz.underlying125 hi hz0 hz1 _ _ _ _ m rfl rfl (by omega) (by omega) (by rw [hz2]; omega) (by unfold maxLen; omega) (Nat.le_refl _) ?_; intro w5 hown5 hgr5)
          have hb5 : Below wr.heap.size wr w5 := (Below.refl _ _).grown hgr5 (Nat.le_refl _) (fun k hk => by cases hk)
          have hby : Byr w5 wr.heap.size 0 l := by
            have hmm := HM.out
            rw [hmm] at hown5
            exact Byr.made hown5
          have hcel : ∀ j, j < m → w5.cell? ⟨g, j, none⟩ = some (.int .u8 ((l.reverse.getD j 0).toNat : Int)) := fun j hj => (hb5.cell (p := ⟨g, j, none⟩) hglt).trans (HC0.out j hj)
          have hbl5 := hbl.trans (hb5.mono hsz)
          obtain ⟨g2, hg2⟩ : ∃ g, g = wr.heap.size := ⟨_, rfl⟩
          rw [← hg2] at hby hglt ⊢
          have hgw2 : w.heap.size ≤ g2 := by omega
          have hgg : g ≠ g2 := by omega
          clear hown5 hgr5 hb5 hg2 hsz hi hz0 hz1 hz2
          go_wp2_with fail
          obtain ⟨wo, rfl⟩ : ∃ wo : World, wo = wr := ⟨_, rfl⟩
          go_loopw [33] (fun s33 wx => ∃ i : Nat, i ≤ m ∧ s33 = .int .i64 i ∧ Byr wx g2 i l ∧ Below w.heap.size w wx ∧ Hid (∀ j, j < m → wx.cell? ⟨g, j, none⟩ = some (.int .u8 ((l.reverse.getD j 0).toNat : Int)))) (fun s33 _ => m - (intOf s33).toNat)
          case atStart => exact ⟨0, by omega, rfl, hby, hbl5, hcel⟩
          case round =>
            obtain ⟨i, hi, rfl, hbr, hbx, hce⟩ := hrel
            by_cases hlt : i < m
            · have hil : i < l.length := by rw [← HM.out]; exact hlt
              have hc1 := hce.out i hlt
              have hcw := hbr.cell hil
              have hfw := hbr.frozen (l.length - 1 - i)
              have hset := hbr.set hil
              have hlr : i < l.reverse.length := by rw [List.length_reverse]; exact hil
              have hgd : l.reverse.getD i 0 = l[l.length - 1 - i] := by
                rw [List.getD, List.getElem?_eq_getElem hlr, Option.getD_some, List.getElem_reverse]
              rw [hgd] at hc1
              obtain ⟨v, hv⟩ : ∃ v, v = l[l.length - 1 - i].toNat := ⟨_, rfl⟩
              rw [← hv] at hc1 hset
              rw [← HM.out] at hcw hfw hset
              have hset2 := Lib.hid hset
              clear hgd hv hset hil hlr
              go_wp2_with fail
              go_roundw
              case rel => exact ⟨i + 1, by omega, by go_num, hset2.out, hbx.setCell hgw2 _, fun j hj => (World.cell?_of_block (a := ⟨g, j, none⟩) (Below.heap_setCell _ _ _ _ (fun e => hgg e))).trans (hce.out j hj)⟩
              case measure => simp [intOf]; omega
            · obtain rfl : i = m := by omega
              have ht : (convert 125 9 (.slice (some ⟨g2, 0, none⟩) i i)).run Tryz.prog wr = .ok (.string ⟨l.toArray⟩) wr := by
                have h1 := hbr
                have hmm := HM.out
                rw [hmm] at h1
                have h2 := h1.text
                rwa [← hmm] at h2
              clear hce hbr
              go_wp2_with fail
              go_ret
              exact ⟨ret_str HL.out, hbx⟩
    · have hpos := dig_length_pos h0
      have hl1 := f0.1
      have hl2 := f0.2.1
      obtain ⟨r, hr⟩ : ∃ r, r = gk % 10 := ⟨_, rfl⟩
      have hr9 : r ≤ 9 := by omega
      have hnew : Hid (bs ++ [UInt8.ofNat (48 + r)] ++ rl (gk / 10) = rl N) := by
        show _ = _; rw [← hbs.out, rl_pos gk h0, hr, List.append_assoc]; rfl
      have hdig : ((48 + r : Nat) : Int) = ((UInt8.ofNat (48 + r)).toNat : Int) := by rw [toNat_digit r (by omega)]
      have HR := Lib.hid hr
      have hdlt : gk / 10 < gk := by omega
      clear hr
      go_wp2_with fail
      refine (short_num 10 n0 (by omega) (by omega)).mono ?_; rintro e w2 ⟨a2, c2, rfl, f2, b2⟩
      rw [← HR.out]
      have hsz2 := Nat.le_trans hsz b2.size
      have hown2 : w2.ownsRow w.heap.size 5 1 u3 bs.length (byv bs) := hown.kept (row := none) (grownBy_below b2 (Nat.le_refl _) none) (by cases hv : u3.ownBlock <;> simp)
      have hb2 := hbl.trans (b2.mono hsz)
      go_wp2_with (at_builtin; refine wpList_append_own_at _ rfl _ _ 125 rfl w.heap.size 5 i0 (.int .u8 0) 1 1 Tryz.underlying125 hi hz0 hz1 hz2 rfl (by omega) _ _ _ rfl (hown2.alloc _) ⟨w2.heap.size, 0, none⟩ 1 1 [.int .u8 (48 + (r : Int))] rfl rfl (cell_one_new _ _ _) (by intro u hu; simp at hu; subst hu; rfl) (by unfold maxLen; omega) (by omega) (by simp; omega) ?_)
      intro v' w3 hown3 hgr3 _ hloc
      have hl3 : ∀ a, a2 = some a → some a.block ≠ u3.ownBlock := fun a ha e => by
        subst ha
        have h1 := f2.block_lt.1
        have h2 := (hown.lt a.block e.symm).2
        omega
      have hf3 : Fr w.heap.size w3 a2 c2 (dig (gk / 10)) := ((f2.alloc _).grown hgr3 hl3).mono hsz
      have hb3 : Below w.heap.size w w3 := (hb2.alloc hsz2 _).grown hgr3 (by simp; omega) (fun k hk => (hown2.lt k hk).1)
      have e8 : (48 : Int) + (r : Int) = ((UInt8.ofNat (48 + r)).toNat : Int) := by rw [← hdig]; omega
      have hown4 : w3.ownsRow w.heap.size 5 1 v' (bs ++ [UInt8.ofNat (48 + r)]).length (byv (bs ++ [UInt8.ofNat (48 + r)])) := by
        rw [List.length_append, show byv (bs ++ [UInt8.ofNat (48 + r)]) = byv bs ++ [Value.int .u8 (48 + (r : Int))] by simp only [byv, List.map_append, List.map_cons, List.map_nil, e8]]
        exact hown3
      clear hown3 hgr3 hloc hl3 e8
      go_wp2_with fail
      go_roundg (gk / 10)
      case measure => exact hdlt
      case rel => exact ⟨bs ++ [UInt8.ofNat (48 + r)], a2, c2, rfl, hf3, by omega, hown4, hnew.out, hb3⟩
end Go.Proofs.YtobiepkhommeaaaGreatDoor
/- Bytes in memory: a text as a slice of bytes, one byte changed, and back. -/
namespace Go.Proofs.YtobiepkhommeaaaGreatDoor
open Go.RowKit Go.Sort

/-- block g reads the bytes l -/
def Bts (w : World) (g : Nat) (l : List UInt8) : Prop := ∀ j, j < l.length → w.cell? ⟨g, j, none⟩ = some (.int .u8 ((l.getD j 0).toNat : Int))
theorem Bts.text {w : World} {g n cap : Nat} {l : List UInt8} (h : Bts w g l) (hn : n ≤ l.length) : (convert 125 9 (.slice (some ⟨g, 0, none⟩) n cap)).run Tryz.prog w = .ok (.string ⟨(l.take n).toArray⟩) w := by
  have := run_convert_bytes_back (P := Tryz.prog) w 125 9 5 ⟨g, 0, none⟩ cap (l.take n) Tryz.underlying125 Tryz.underlying5 Tryz.underlying9 (fun j hj => by
    have hj' : j < n := by rw [List.length_take] at hj; omega
    rw [Addr.add_lit, Nat.zero_add, h j (by omega)]
    simp [List.getD, show j < l.length by omega])
  rwa [List.length_take, Nat.min_eq_left hn] at this
theorem Bts.keep {w w' : World} {g : Nat} {l : List UInt8} (h : Bts w g l) (b : Below w.heap.size w w') : Bts w' g l := fun j hj => (b.cell (World.block_lt_of_cell? _ _ (h j hj))).trans (h j hj)
theorem Bts.set {w : World} {g : Nat} {l : List UInt8} (h : Bts w g l) {a : Nat} (ha : a < l.length) (x : UInt8) : Bts (w.setCell ⟨g, a, none⟩ (.int .u8 (x.toNat : Int))) g (l.set a x) := by
  intro j hj
  rw [List.length_set] at hj
  by_cases e : a = j
  · subst e
    have hc := h a ha
    have : (w.setCell ⟨g, a, none⟩ (.int .u8 (x.toNat : Int))).cell? ⟨g, a, none⟩ = some (.int .u8 (x.toNat : Int)) := by
      unfold World.cell? at hc ⊢
      simp only [World.setCell, Array.getElem?_modify] at hc ⊢
      cases hh : w.heap[g]? with
      | none => simp [hh] at hc
      | some o =>
        simp only [hh] at hc ⊢
        cases o <;> simp at hc ⊢
        all_goals
          obtain ⟨hlt, _⟩ := Array.getElem?_eq_some_iff.1 hc
          simp [hlt]
    rw [this]
    simp [List.getD, ha]
  · have hc := h j hj
    have : (w.setCell ⟨g, a, none⟩ (.int .u8 (x.toNat : Int))).cell? ⟨g, j, none⟩ = w.cell? ⟨g, j, none⟩ := by
      unfold World.cell?
      simp only [World.setCell, Array.getElem?_modify]
      cases hh : w.heap[g]? with
      | none => simp
      | some o => cases o <;> simp [e]
    rw [this, hc]
    simp [List.getD, e]
/-- the bytes of a text, in memory -/
theorem Bts.made (w : World) (T : TypeId) (s : ByteArray) : Bts (Lib.bytesWorld w T s) w.heap.size s.data.toList := fun j hj => Lib.bytesWorld_cell w T s j (by simpa using hj)

theorem Bts.unfrozen (w : World) (T : TypeId) (s : ByteArray) {a : Nat} (ha : a < s.size) : (Lib.bytesWorld w T s).frozen? ⟨w.heap.size, a, none⟩ = false := by
  unfold World.frozen?
  rw [Lib.bytesWorld_at_new]
  have : s.size ≤ (Lib.bytesCells w T s).size := by simp [Lib.bytesCells]
  simp; omega
theorem dec_len {k n : Nat} (h : n < 10 ^ (k + 1)) : (Lib.decDigits n).length ≤ k + 1 := by
  rcases Nat.eq_zero_or_pos n with rfl | hp
  · rw [dec_small (by omega)]; simp
  · have h1 := rl_length k n h
    unfold rl at h1
    rw [if_neg (by omega), List.length_reverse] at h1
    exact h1
end Go.Proofs.YtobiepkhommeaaaGreatDoor
