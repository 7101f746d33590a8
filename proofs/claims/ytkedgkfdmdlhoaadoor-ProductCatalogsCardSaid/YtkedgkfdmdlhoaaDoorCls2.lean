import Derived.Test.YtkedgkfdmdlhoaaDoorCls1
/- Package classification: Parse. -/
namespace Go.Proofs.YtkedgkfdmdlhoaaDoor.C6
open Go.RowKit Go.Sort

set_option maxHeartbeats 1000000 in
/-- strings.Split at a point -/
theorem split_v (s : ByteArray) (hs : s.size ≤ 14) (w : World) :
    Calls Tryd.prog 37 #[.string s, .string ⟨#[46]⟩] w fun e w' => e = .returned (.slice (some ⟨w.heap.size, 0, none⟩) (Lib.countB s dot + 1) (Lib.countB s dot + 1)) ∧ w' = w.alloc (.cells (strs (Lib.splitB dot 0 (Lib.countB s dot) s)).toArray 9) := by
  have h1 : 1 ≤ dot.size := by decide
  have hle := Lib.countB_le dot h1 s.size s (Nat.le_refl _)
  have hlen := Lib.splitB_all dot h1 0 _ s rfl
  have hI : ∀ (x : ByteArray) (w : World), Calls Tryd.prog 46 #[.string x, .string dot] w fun e w' => e = .returned (.int .i64 (Lib.indexB x dot)) ∧ w' = w := fun x w =>
    (Tryd.strings_Index_one x 46 w).mono fun e w' ⟨he, hw⟩ => ⟨by rw [he]; exact ret_i64 (Lib.index_one _ _).symm, hw⟩
  have hC : Calls Tryd.prog 45 #[.string s, .string dot] w fun e w' => e = .returned (.int .i64 (Lib.countB s dot)) ∧ w' = w :=
    (Tryd.strings_Count_one s 46 w).mono fun e w' ⟨he, hw⟩ => ⟨by
      rw [he]
      show _ = Ending.returned (Value.int .i64 ((Lib.count s.data.toList [46] : Nat) : Int))
      rw [Lib.count_one]
      rfl, hw⟩
  have c := Any.strings_genSplit_core Tryd.lays221 (by kernel_rfl) s dot 0 (-1) (Lib.countB s dot + 1) w (by omega) h1 (by decide)
    (fun x c _ => hI x _) hC (by decide) (by decide) (by rw [if_pos (by decide)]; omega)
  rw [Nat.add_sub_cancel, hlen] at c
  have e2 : Lib.cellsOf (Lib.splitB dot 0 (Lib.countB s dot) s) (Lib.countB s dot + 1) = ((Lib.splitB dot 0 (Lib.countB s dot) s).map Value.string).toArray := by rw [← hlen]; exact Lib.cellsOf_full _
  rw [e2] at c
  have c' : Calls Tryd.prog 40 #[.string s, .string ⟨#[46]⟩, .int .i64 0, .int .i64 (-1)] w fun e w' => e = .returned (.slice (some ⟨w.heap.size, 0, none⟩) (Lib.countB s dot + 1) (Lib.countB s dot + 1)) ∧ w' = w.alloc (.cells (strs (Lib.splitB dot 0 (Lib.countB s dot) s)).toArray 9) := c
  have HC := Lib.hid c'
  clear c c' e2 hI hC hlen hle
  go_enter Tryd.func37, Tryd.ntmps37
  go_wp2_with fail
  refine HC.out.mono ?_; rintro e w' ⟨rfl, rfl⟩
  go_wp2_with fail
  go_ret
  exact ⟨rfl, rfl⟩

/-- the variable strconv.ErrSyntax holds an error or none -/
def ErrV (w : World) : Prop := ∃ ev, w.cell? ⟨0, 0, none⟩ = some ev ∧ (ev = .nilIface ∨ ∃ te pe, ev = .iface te pe)
theorem ErrV.below {w w' : World} (h : ErrV w) (b : Below w.heap.size w w') : ErrV w' := by
  obtain ⟨ev, h1, h2⟩ := h
  exact ⟨ev, cellB h1 b, h2⟩
/-- strconv.Atoi of any short text -/
theorem atoi_any (t : ByteArray) (ht : t.size ≤ 18) (w : World) (hev : ErrV w) :
    Calls Tryd.prog 38 #[.string t] w fun e w' => ∃ (v : Int) (x : Value), e = .returned (.tuple #[.int .i64 v, x]) ∧ (∀ n, Lib.atoi t.data.toList = some n → v = n) ∧ Below w.heap.size w w' := by
  cases ha : Lib.atoi t.data.toList with
  | some n => exact (Tryd.strconv_Atoi t n ht ha w).mono fun e w' ⟨he, x, hw⟩ => ⟨n, _, he, fun n' h => by cases h; rfl, by rw [hw]; exact Lib.bytesWorld_below w _ x⟩
  | none =>
    obtain ⟨ev, h1, h2⟩ := hev
    exact (Tryd.strconv_Atoi_err t ht ha ev w h1 h2).mono fun e w' ⟨N, he, _, _, b⟩ => ⟨0, _, he, (fun n' h => absurd h (by simp)), b⟩

theorem split_size (sep : List UInt8) : ∀ (k : Nat) (s x : List UInt8), x ∈ Lib.splitK sep 0 k s → x.length ≤ s.length
  | 0, s, x, h => by simp [Lib.splitK] at h; rw [h]; exact Nat.le_refl _
  | k + 1, s, x, h => by
    unfold Lib.splitK at h
    split at h
    · simp at h; rw [h]; exact Nat.le_refl _
    · rcases List.mem_cons.1 h with rfl | h'
      · simp; omega
      · have := split_size sep k _ x h'
        rw [List.length_drop] at this
        omega
/-- the pieces of a text -/
theorem pieces_size {s : ByteArray} {l : List ByteArray} (h : l = Lib.splitB dot 0 (Lib.countB s dot) s) {i : Nat} (hi : i < l.length) : (l.getD i ByteArray.empty).size ≤ s.size := by
  have hm : (l.getD i ByteArray.empty).data.toList ∈ (Lib.splitB dot 0 (Lib.countB s dot) s).map (·.data.toList) := by
    rw [← h]
    refine List.mem_map.2 ⟨_, ?_, rfl⟩
    simp [List.getD, hi]
  rw [Lib.splitB_data] at hm
  have := split_size _ _ _ _ hm
  rw [Array.length_toList, Array.length_toList] at this
  exact this

/-- the numbers read off the pieces of a code are its parts -/
theorem read_parts {p : List Nat} (hp : Pts p) {l : List ByteArray} {n : Nat} {zs : List Int} (hl : l = Lib.splitB dot 0 (Lib.countB (txt p) dot) (txt p)) (hn : l.length = n) (hz : zs.length = n)
    (h : ∀ i, i < n → ∀ m, Lib.atoi (l.getD i ByteArray.empty).data.toList = some m → zs.getD i 0 = m) : zs = zz p := by
  have hm := split_cod hp
  rw [← hl] at hm
  have hlen : n = p.length := by rw [← hn, ← pcs_len p, ← hm, List.length_map]
  apply List.ext_getElem?
  intro i
  by_cases hi : i < n
  · have ha := atoi_pcs hp.2.2 i (by omega)
    have hg : (l.getD i ByteArray.empty).data.toList = (pcs p).getD i [] := by
      rw [← hm]
      have : i < l.length := by omega
      simp [List.getD, this]
    have := h i hi _ (by rw [hg]; exact ha)
    have h1 : i < zs.length := by omega
    have h2 : i < p.length := by omega
    rw [List.getElem?_eq_getElem h1]
    simp only [zz, List.getElem?_map, List.getElem?_eq_getElem h2, Option.map_some]
    simp [List.getD, h1, h2] at this
    rw [this]
  · rw [List.getElem?_eq_none (by omega), List.getElem?_eq_none (by rw [zz_length]; omega)]
/-- the code that a text is, if any -/
def ParPost (s : ByteArray) (w : World) (e : Ending) (w' : World) : Prop :=
  ((∃ p ao cap, Pts p ∧ s = txt p ∧ e = .returned (.tuple #[.slice ao p.length cap, .int .i64 0]) ∧ RdN w' ao cap p ∧ (0 < p.length → ∀ b o, ao = some ⟨b, o, none⟩ → w.heap.size ≤ b)) ∨
    ((∀ p, Pts p → s ≠ txt p) ∧ e = .returned (.tuple #[.slice none 0 0, .int .i64 60]))) ∧ Below w.heap.size w w'

set_option maxHeartbeats 16000000 in
set_option maxRecDepth 100000 in
theorem Parse_v (s : ByteArray) (w : World) (hev : ErrV w) : Calls Tryd.prog 36 #[.string s] w (ParPost s w) := by
  by_cases h14 : s.size ≤ 14
  · obtain ⟨i0, hi, hz0, hz1, hz2⟩ := info_parts infoInt
    have hd14 : decide (14 < (s.size : Int)) = false := decide_eq_false (by omega)
    have h1 : 1 ≤ dot.size := by decide
    have hle := Lib.countB_le dot h1 s.size s (Nat.le_refl _)
    have hlen := Lib.splitB_all dot h1 0 _ s rfl
    have HS := Lib.hid (split_v s h14)
    obtain ⟨l, hl⟩ : ∃ l, l = Lib.splitB dot 0 (Lib.countB s dot) s := ⟨_, rfl⟩
    obtain ⟨n, hn⟩ : ∃ n, n = Lib.countB s dot + 1 := ⟨_, rfl⟩
    rw [← hl, ← hn] at hlen
    have hn1 : 1 ≤ n := by omega
    have hn15 : n ≤ 15 := by omega
    unfold Hid at HS
    rw [← hl, ← hn] at HS
    have HS2 := Lib.hid HS
    have HPZ : Hid (∀ i, i < n → (l.getD i ByteArray.empty).size ≤ 14) := fun i hi => Nat.le_trans (pieces_size hl (by omega)) h14
    have HL := Lib.hid hl
    have HLN := Lib.hid hlen
    have HEV := Lib.hid hev
    clear HS hl hn hlen hle h1 hev
    go_enter Tryd.func36, Tryd.ntmps36
    go_wp2_with fail
    refine (HS2.out _).mono ?_; rintro e w1 ⟨rfl, hw1⟩
    have b1 : Below w.heap.size w w1 := by rw [hw1]; exact below_new _ _
    have sz1 : w1.heap.size = w.heap.size + 1 := by rw [hw1]; simp
    have hrd : RdS w1 (some ⟨w.heap.size, 0, none⟩) n l := by
      refine ⟨by rw [strs_length]; exact Nat.le_of_eq HLN.out, by omega, .inr ⟨_, 0, rfl, fun i v hv => ?_⟩⟩
      rw [hw1, Nat.zero_add, World.cell?_alloc_mark w _ _ (0, 0) i]
      simpa using hv
    have HR := Lib.hid hrd
    have B1 := Lib.hid b1
    have S1 := Lib.hid sz1
    clear hw1 hrd b1 sz1
    go_wp2_with fail
    go_loopw [4, 17] (fun s4 s17 wr => ∃ (i : Nat) (zs : List Int) (v4 : Value), i ≤ n ∧ s17 = .int .i64 (i : Int) ∧ v4 = s4 ∧ Hid (zs.length = i) ∧ Hid (wr.ownsRow w1.heap.size 3 1 v4 i (intz zs)) ∧ Hid (∀ j, j < i → ∀ m, Lib.atoi (l.getD j ByteArray.empty).data.toList = some m → zs.getD j 0 = m) ∧ Hid (Below w1.heap.size w1 wr)) (fun _ s17 _ => n - (intOf s17).toNat)
    case atStart => exact ⟨0, [], _, by omega, rfl, rfl, rfl, World.ownsRow_nil _ _ _ _, fun j hj => by omega, Below.refl _ _⟩
    case round =>
      obtain ⟨i, zs, v4, hin, rfl, rfl, hzl, hown, hat, hbl⟩ := hrel
      by_cases hlt : i < n
      · have hlt2 : (i : Int) < (n : Int) := by omega
        obtain ⟨b, o, eq, hc⟩ := (HR.out.below hbl.out).atS (i := i) (by have := HLN.out; omega)
        cases eq
        obtain ⟨t, ht⟩ : ∃ t, t = l.getD i ByteArray.empty := ⟨_, rfl⟩
        have hts : t.size ≤ 18 := by rw [ht]; have := HPZ.out i hlt; omega
        rw [← ht, Nat.zero_add] at hc
        have HT := Lib.hid ht
        clear ht
        go_wp2_with fail
        refine (atoi_any t hts _ (HEV.out.below (B1.out.trans (hbl.out.mono B1.out.size)))).mono ?_; rintro e w2 ⟨v, x, rfl, hv, b2⟩
        have HV := Lib.hid hv
        have HB2 := Lib.hid (keep hbl.out b2)
        have HO := Lib.hid (own_below hown.out b2)
        have hsz2 : w1.heap.size ≤ w2.heap.size := HB2.out.size
        clear hv b2
        go_wp2_with (at_builtin; refine wpList_append_own _ rfl _ _ 27 rfl w1.heap.size 3 i0 (.int .i64 0) 1 8 Tryd.underlying27 hi hz0 hz1 hz2 rfl (by omega) _ _ _ rfl (HO.out.alloc _) ⟨w2.heap.size, 0, none⟩ 1 1 [.int .i64 v] rfl rfl (one_cell _ _ _) (by intro u hu; simp at hu; rcases hu with rfl; rfl) (by unfold maxLen; omega) (by omega) (by simp; omega) ?_; intro v3 w3 hown3 hgr3 _)
        have hrows : ∀ k, v4.ownBlock = some k → w1.heap.size ≤ k := fun k e => (hown.out.lt k e).1
        have HB3 : Hid (Below w1.heap.size w1 w3) := by
          refine HB2.out.trans (Below.trans (b := w2.alloc (.cells #[.int .i64 v] 3)) ((Below.refl _ _).alloc (by omega) _) ((Below.refl _ _).grown hgr3 (by simp; omega) (fun k e => ?_)))
          have := hrows k e
          omega
        have HO3 : Hid (w3.ownsRow w1.heap.size 3 1 v3 (i + 1) (intz (zs ++ [v]))) := by unfold Hid; rw [show intz (zs ++ [v]) = intz zs ++ [.int .i64 v] by simp [intz]]; exact hown3
        have HL3 : Hid ((zs ++ [v]).length = i + 1) := by unfold Hid; rw [List.length_append, hzl.out]; rfl
        have HA3 : Hid (∀ j, j < i + 1 → ∀ m, Lib.atoi (l.getD j ByteArray.empty).data.toList = some m → (zs ++ [v]).getD j 0 = m) := fun j hj m hm => by
          by_cases hji : j < i
          · rw [← hat.out j hji m hm]
            simp [List.getD, List.getElem?_append_left (show j < zs.length by rw [hzl.out]; exact hji)]
          · obtain rfl : j = i := by omega
            rw [← HV.out m (by rw [HT.out]; exact hm)]
            simp [List.getD, ← hzl.out]
        clear hown3 hgr3 hrows
        go_wp2_with fail
        go_roundw
        case rel => exact ⟨i + 1, _, _, by omega, by go_num, rfl, HL3, HO3, HA3, HB3⟩
        case measure => simp [intOf]; omega
      · obtain rfl : i = n := by omega
        have hlt2 : ¬ (i : Int) < (i : Int) := by omega
        obtain ⟨ao, cap, e4, hrd4, hge⟩ := RdV.of_row hown.out
        rw [intz_length] at e4
        subst e4
        obtain ⟨k, hk⟩ : ∃ k, k = zs.length := ⟨_, rfl⟩
        have HF := fun w h => Format_v ao cap zs w h
        rw [← hk] at HF ⊢
        have hfin : ∀ e, FmtPost zs e → (∃ p, Pts p ∧ s = txt p ∧ zs = zz p ∧ e = .returned (.tuple #[.string s, .int .i64 0])) ∨ ((∀ p, Pts p → s ≠ txt p) ∧ ∃ T x, e = .returned (.tuple #[.string T, .int .i64 x]) ∧ (x = 64 ∨ (x = 0 ∧ T ≠ s))) := by
          intro e he
          by_cases hc : ∃ p, Pts p ∧ s = txt p
          · obtain ⟨p, hp, hs⟩ := hc
            have hzp := read_parts hp (by rw [← hs]; exact HL.out) HLN.out hzl.out hat.out
            rcases he with ⟨q, hq, e1, e2⟩ | ⟨hno, _⟩
            · have : p = q := zz_inj (hzp.symm.trans e1)
              subst this
              exact .inl ⟨p, hp, hs, hzp, by rw [e2, hs]⟩
            · exact absurd hzp (hno p hp)
          · refine .inr ⟨fun p hp e => hc ⟨p, hp, e⟩, ?_⟩
            rcases he with ⟨q, hq, e1, e2⟩ | ⟨hno, e2⟩
            · exact ⟨_, _, e2, .inr ⟨rfl, fun e => hc ⟨q, hq, e.symm⟩⟩⟩
            · exact ⟨_, _, e2, .inl rfl⟩
        have HFin := Lib.hid hfin
        have HB := Lib.hid (B1.out.trans (hbl.out.mono B1.out.size))
        have HRD := Lib.hid hrd4
        have HGE : Hid (0 < zs.length → ∀ b o, ao = some ⟨b, o, none⟩ → w.heap.size ≤ b) := fun h0 b o e => by have := hge (by rw [intz_length]; exact h0) b o e; have := S1.out; omega
        have HFF := Lib.hid HF
        have HK := Lib.hid hk
        clear hfin hrd4 hge HF hk hown hat hzl
        go_wp2_with fail
        refine (HFF.out _ HRD.out).mono ?_; rintro e w' ⟨hpost, rfl⟩
        rcases HFin.out e hpost with ⟨p, hp, hs, hzp, rfl⟩ | ⟨hno, T, x, rfl, hx⟩
        · have ht := eq_text (rfl : s = s)
          have HE : Hid (ParPost s w (.returned (.tuple #[.slice ao k cap, .int .i64 0])) wr) := by
            refine ⟨.inl ⟨p, ao, cap, hp, hs, ?_, ?_, ?_⟩, HB.out⟩
            · rw [HK.out, hzp, zz_length]
            · have := HRD.out
              rw [hzp] at this
              unfold RdN
              rw [ints_z]
              exact this
            · have := HGE.out
              rw [hzp, zz_length] at this
              exact this
          clear hp hs hzp hpost
          go_wp2_with fail
          go_ret2
          exact HE.out
        · have HE : Hid (ParPost s w (.returned (.tuple #[.slice none 0 0, .int .i64 60])) wr) := ⟨.inr ⟨hno, rfl⟩, HB.out⟩
          clear hno hpost
          rcases hx with rfl | ⟨rfl, hT⟩
          · go_wp2_with fail
            go_ret2
            exact HE.out
          · have ht := ne_text hT
            clear hT
            go_wp2_with fail
            go_ret2
            exact HE.out
  · have HE : Hid (ParPost s w (.returned (.tuple #[.slice none 0 0, .int .i64 60])) w) := ⟨.inr ⟨fun p hp e => h14 (by rw [e, txt_size]; exact (cod_len hp).2), rfl⟩, Below.refl _ _⟩
    have hd14 : decide (14 < (s.size : Int)) = true := decide_eq_true (by omega)
    clear hev
    go_enter Tryd.func36, Tryd.ntmps36
    go_wp2_with fail
    go_ret2
    exact HE.out
end Go.Proofs.YtkedgkfdmdlhoaaDoor.C6
