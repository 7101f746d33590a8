/- NaturalLong: the walk. -/
import Derived.Test.YtaggodjplgmmhaaDoorLawTexts
import Derived.Laws.IdiomStrings
namespace Go.Proofs.YtaggodjplgmmhaaDoor
open Go.RowKit

theorem cell_of_cells {w : World} {b j : Nat} {cs : Array Value} {t : TypeId} {fr : Nat × Nat} {v : Value} (h : w.heap[b]? = some (.cells cs t fr)) (hj : cs[j]? = some v) : w.cell? ⟨b, j, none⟩ = some v := by
  simp [World.cell?, h, hj]
theorem infoB8 : (Tryd.prog.info? 5).map (fun i => (i.zero, i.size, i.bytes)) = some (some (.int .u8 0), 1, 1) := by kernel_rfl
/-- the text that the law makes -/
def btx (k : Nat) : List UInt8 := (List.range k).map fun i => UInt8.ofNat (49 + i % 9)
theorem btx_length (k : Nat) : (btx k).length = k := by simp [btx]
theorem btx_get (k j : Nat) (hj : j < (btx k).length) : (btx k)[j].toNat = 49 + j % 9 := by
  simp only [btx, List.getElem_map, List.getElem_range, UInt8.toNat_ofNat']
  omega
theorem btx_good (k : Nat) (hk : 0 < k) : Good (btx k) := by
  refine ⟨fun c hc => ?_, ?_, ?_⟩
  · obtain ⟨j, hj, rfl⟩ := List.getElem_of_mem hc
    unfold isd; rw [btx_get k j hj]; omega
  · intro e; have := btx_length k; rw [e] at this; simp at this; omega
  · right
    rw [List.head?_eq_getElem?, List.getElem?_eq_getElem (by rw [btx_length]; exact hk)]
    intro e
    have := congrArg UInt8.toNat (Option.some.inj e)
    rw [btx_get k 0] at this
    have h2 : (48 : UInt8).toNat = 48 := rfl
    omega

/-- a block of n bytes of the call's own, the first i of them laid -/
def Byt (w : World) (g n i : Nat) : Prop := ∃ cur : Array Value, w.heap[g]? = some (.cells cur 5 (0, 0)) ∧ cur.size = n ∧ (∀ j, j < i → cur[j]? = some (.int .u8 ((49 + j % 9 : Nat) : Int))) ∧ ∀ j, i ≤ j → j < n → cur[j]? = some (.int .u8 0)
theorem Byt.cell {w : World} {g n i : Nat} (h : Byt w g n i) (hi : i < n) : w.cell? ⟨g, i, none⟩ = some (.int .u8 0) := by
  obtain ⟨cur, h1, h2, h3, h4⟩ := h
  exact cell_of_cells h1 (h4 i (Nat.le_refl _) hi)
theorem Byt.frozen {w : World} {g n i : Nat} (h : Byt w g n i) (j : Nat) : w.frozen? ⟨g, j, none⟩ = false := by
  obtain ⟨cur, h1, h2, h3, h4⟩ := h
  simp [World.frozen?, h1]
theorem Byt.set {w : World} {g n i : Nat} (h : Byt w g n i) (hi : i < n) : Byt (w.setCell ⟨g, i, none⟩ (.int .u8 ((49 + i % 9 : Nat) : Int))) g n (i + 1) := by
  obtain ⟨cur, h1, h2, h3, h4⟩ := h
  refine ⟨cur.setIfInBounds i (.int .u8 ((49 + i % 9 : Nat) : Int)), ?_, by simpa using h2, fun j hj => ?_, fun j hj hn => ?_⟩
  · simp [World.setCell, Array.getElem?_modify, h1]
  · rw [Array.getElem?_setIfInBounds]
    by_cases e : i = j
    · subst e; rw [if_pos rfl, if_pos (by omega)]
    · rw [if_neg e]; exact h3 j (by omega)
  · rw [Array.getElem?_setIfInBounds, if_neg (by omega)]; exact h4 j (by omega) hn
theorem Byt.below {B : Nat} {w w' : World} {g n i : Nat} (h : Byt w g n i) (hb : Below B w w') (hg : g < B) : Byt w' g n i := by
  obtain ⟨cur, h1, h2⟩ := h
  exact ⟨cur, (hb.block g hg).trans h1, h2⟩
theorem Byt.lt {w : World} {g n i : Nat} (h : Byt w g n i) : g < w.heap.size := by
  obtain ⟨cur, h1, _⟩ := h
  exact (Array.getElem?_eq_some_iff.1 h1).1
theorem Byt.text {w : World} {g n : Nat} (h : Byt w g n n) : (convert 50 9 (.slice (some ⟨g, 0, none⟩) n n)).run Tryd.prog w = .ok (.string ⟨(btx n).toArray⟩) w := by
  have := run_convert_bytes_back (P := Tryd.prog) w 50 9 5 ⟨g, 0, none⟩ n (btx n) Tryd.underlying50 Tryd.underlying5 Tryd.underlying9 (fun j hj => by
    obtain ⟨cur, h1, h2, h3, h4⟩ := h
    rw [Addr.add_lit, Nat.zero_add, btx_get n j hj]
    exact cell_of_cells h1 (h3 j (by rw [btx_length] at hj; exact hj)))
  rwa [btx_length] at this
theorem Byt.made {w w' : World} {n : Nat} (h : w'.ownsRow w.heap.size 5 1 (.slice (some ⟨w.heap.size, 0, none⟩) n n) n (madeCells (Value.int .u8 0).cells (n * 1)).toList) : Byt w' w.heap.size n 0 := by
  have e : (madeCells (Value.int .u8 0).cells (n * 1)).toList = List.replicate n (Value.int .u8 0) := by
    rw [show (Value.int .u8 0).cells = #[Value.int .u8 0] from rfl, toList_madeCells_one, Nat.mul_one]
  rw [e] at h
  obtain ⟨h1, h2⟩ := h
  rcases h2 with ⟨h2, _⟩ | ⟨g', cap', cur, hv, hb, hg, hn, hc, hs, ht⟩
  · cases h2
  · cases hv
    have hs' : cur.size = n := by simpa using hs
    have e2 : cur.toList = List.replicate n (Value.int .u8 0) := by
      rw [← ht, List.take_of_length_le]; simp [hs']
    refine ⟨cur, hg, hs', fun j hj => by omega, fun j _ hj => ?_⟩
    rw [← Array.getElem?_toList, e2, List.getElem?_replicate, if_pos hj]

set_option maxHeartbeats 8000000 in
set_option maxRecDepth 100000 in
theorem NaturalLong_any (z : Int) (w : World) (_hz0 : -9223372036854775808 ≤ z) (_hz1 : z ≤ 9223372036854775807) (htab : Tab w) :
    Calls Tryd.prog 10 #[.int .i64 z] w fun e w' => e = .returned (.bool true) ∧ Below w.heap.size w w' := by
  obtain ⟨i0, hi, hz0, hz1, hz2⟩ := info_parts infoB8
  go_enter Tryd.func10, Tryd.ntmps10
  go_wp2_with fail
  refine (Fold_any z 5 (by omega) (by omega) _ 5 rfl).mono ?_; rintro e w' ⟨r, rfl, hr, rfl⟩
  obtain ⟨k, hk⟩ : ∃ k, k = 4094 + r := ⟨_, rfl⟩
  have hki : (4094 : Int) + (r : Int) = (k : Int) := by omega
  have hk1 : 4094 ≤ k := by omega
  have hk2 : k ≤ 4098 := by omega
  clear hk hr
  go_wp2_with (at_make; refine wpList_make_full _ rfl _ _ 50 rfl w.heap.size 5 i0 (.int .u8 0) 1 Tryd.underlying50 hi hz0 hz1 _ _ _ _ k rfl rfl (by omega) (by omega) (by rw [hz2]; omega) (by unfold maxLen; omega) (Nat.le_refl _) ?_; intro w1 hown hgr)
  have hby := Byt.made hown
  clear hown hi hz0 hz1 hz2
  have hbel : Below w.heap.size w w1 := (Below.refl _ _).grown hgr (Nat.le_refl _) (fun k hk => by cases hk)
  clear hki
  go_loopw [15] (fun s15 wr => ∃ i : Nat, i ≤ k ∧ s15 = .int .i64 i ∧ Byt wr w.heap.size k i ∧ Below w.heap.size w wr) (fun s15 _ => k - (intOf s15).toNat)
  case atStart => exact ⟨0, by omega, rfl, hby, hbel⟩
  case round =>
    obtain ⟨i, hi, rfl, hb, hbl⟩ := hrel
    by_cases hlt : i < k
    · have hcell := hb.cell hlt
      have hfro := hb.frozen i
      have hset := hb.set hlt
      have e1 : ((49 + i % 9 : Nat) : Int) = 49 + (i : Int) % 9 := by omega
      rw [e1] at hset
      clear e1
      go_wp2_with fail
      go_roundw
      case rel => exact ⟨i + 1, by omega, by go_num, hset, hbl.setCell (Nat.le_refl _) _⟩
      case measure => simp [intOf]; omega
    · obtain rfl : i = k := by omega
      have ht := hb.text
      have hblt := hb.lt
      have hgood := btx_good i (by omega)
      obtain ⟨X, hX⟩ : ∃ X : ByteArray, X = ⟨(btx i).toArray⟩ := ⟨_, rfl⟩
      have hXl : X.data.toList = btx i := by rw [hX]
      have hXs : X.size ≤ 9223372036854775807 := by rw [← size_list, hXl, btx_length]; omega
      have hXs2 : X.size = i := by rw [← size_list, hXl, btx_length]
      rw [← hX] at ht
      have TX : ∀ W, Below wr.heap.size wr W → (convert 50 9 (.slice (some ⟨w.heap.size, 0, none⟩) i i)).run Tryd.prog W = .ok (.string X) W := fun W h => by
        rw [hX]; exact (hb.below h hblt).text
      have HT := Lib.hid TX
      have HXL := Lib.hid hXl
      have HG := Lib.hid hgood
      clear hX hXl TX hgood hgr hby hbel
      rcases Nat.lt_or_ge 4096 i with hl | hl
      · obtain ⟨e1, e2⟩ := txt_long HG.out (by rw [btx_length]; exact hl)
        rw [← HXL.out] at e1 e2
        have E1 := Lib.hid e1
        have E2 := Lib.hid e2
        clear e1 e2 hXs2
        go_wp2_with fail
        refine (Parse_any X _ hXs).mono ?_; rintro e w2 ⟨a2, c2, rfl, f2, b2⟩
        rw [E1.out, E2.out, dig0]
        replace hbl := hbl.trans (b2.mono hbl.size)
        go_wp2_with fail
        refine (awake_any _ (htab.below hbl)).mono ?_; rintro e w6 ⟨rfl, b6⟩
        have BE := hbl.trans (b6.mono hbl.size)
        go_wp2_with fail
        go_ret
        exact ⟨rfl, BE⟩
      · obtain ⟨e1, e2⟩ := txt_fine HG.out (by rw [btx_length]; exact hl)
        rw [← HXL.out] at e1 e2
        have hdg : Digs X.data.toList := by rw [HXL.out]; exact HG.out.1
        have E1 := Lib.hid e1
        have E2 := Lib.hid e2
        have HDG := Lib.hid hdg
        have hX4 : X.size ≤ 4096 := by omega
        clear e1 e2 hdg hXs2
        go_wp2_with fail
        refine (Parse_any X _ hXs).mono ?_; rintro e w2 ⟨a2, c2, rfl, f2, b2⟩
        rw [E2.out] at f2
        rw [E1.out, E2.out]
        have ht2 := HT.out w2 b2
        replace hbl := hbl.trans (b2.mono hbl.size)
        go_wp2_with fail
        refine (Digits_any X _ hX4 HDG.out).mono ?_; rintro e w3 ⟨a3, c3, rfl, f3, b3⟩
        replace f2 := f2.below b3
        replace hbl := hbl.trans (b3.mono hbl.size)
        clear ht ht2
        go_wp2_with fail
        refine (Same_num f2 f3 rfl).mono ?_; rintro e w4 ⟨rfl, b4⟩
        replace hbl := hbl.trans (b4.mono hbl.size)
        go_wp2_with fail
        refine (awake_any _ (htab.below hbl)).mono ?_; rintro e w6 ⟨rfl, b6⟩
        have BE := hbl.trans (b6.mono hbl.size)
        go_wp2_with fail
        go_ret
        exact ⟨rfl, BE⟩
end Go.Proofs.YtaggodjplgmmhaaDoor
