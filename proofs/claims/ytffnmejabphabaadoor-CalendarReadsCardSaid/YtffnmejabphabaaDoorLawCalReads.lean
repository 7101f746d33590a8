import Derived.Test.YtffnmejabphabaaDoorCtx6
import Derived.Test.YtffnmejabphabaaDoorLawCalTexts
import Derived.Lib.ConvBytes
/- CalendarReads: the walk. -/
namespace Go.Proofs.YtffnmejabphabaaDoor
open Go.RowKit Go.Sort

/-- block g reads the bytes l -/
def Bts (w : World) (g : Nat) (l : List UInt8) : Prop := ∀ j, j < l.length → w.cell? ⟨g, j, none⟩ = some (.int .u8 ((l.getD j 0).toNat : Int))
theorem Bts.text {w : World} {g n cap : Nat} {l : List UInt8} (h : Bts w g l) (hn : n ≤ l.length) : (convert 51 9 (.slice (some ⟨g, 0, none⟩) n cap)).run Tryd.prog w = .ok (.string ⟨(l.take n).toArray⟩) w := by
  have := run_convert_bytes_back (P := Tryd.prog) w 51 9 5 ⟨g, 0, none⟩ cap (l.take n) Tryd.underlying51 Tryd.underlying5 Tryd.underlying9 (fun j hj => by
    have hj' : j < n := by rw [List.length_take] at hj; omega
    rw [Addr.add_lit, Nat.zero_add, h j (by omega)]
    simp [List.getD, show j < l.length by omega])
  rwa [List.length_take, Nat.min_eq_left hn] at this
theorem Bts.keep {w w' : World} {g : Nat} {l : List UInt8} (h : Bts w g l) (b : Below w.heap.size w w') : Bts w' g l := fun j hj => cellB (h j hj) b
theorem Bts.set {w : World} {g : Nat} {l : List UInt8} (h : Bts w g l) {a : Nat} (ha : a < l.length) (x : UInt8) : Bts (w.setCell ⟨g, a, none⟩ (.int .u8 (x.toNat : Int))) g (l.set a x) := by
  intro j hj
  rw [List.length_set] at hj
  by_cases e : a = j
  · subst e
    have hc := h a ha
    have : (w.setCell ⟨g, a, none⟩ (.int .u8 (x.toNat : Int))).cell? ⟨g, a, none⟩ = some (.int .u8 (x.toNat : Int)) := by
      unfold World.cell? at hc ⊢
      simp only [World.setCell, Array.getElem?_modify] at hc ⊢
      cases hh : w.heap[g]? with
      | none => simp [hh] at hc
      | some o =>
        simp only [hh] at hc ⊢
        cases o <;> simp at hc ⊢
        all_goals
          obtain ⟨hlt, _⟩ := Array.getElem?_eq_some_iff.1 hc
          simp [hlt]
    rw [this]
    simp [List.getD, ha]
  · have hc := h j hj
    have : (w.setCell ⟨g, a, none⟩ (.int .u8 (x.toNat : Int))).cell? ⟨g, j, none⟩ = w.cell? ⟨g, j, none⟩ := by
      unfold World.cell?
      simp only [World.setCell, Array.getElem?_modify]
      cases hh : w.heap[g]? with
      | none => simp
      | some o => cases o <;> simp [e]
    rw [this, hc]
    simp [List.getD, e]
/-- the bytes of a text, in memory -/
theorem Bts.made (w : World) (T : TypeId) (s : ByteArray) : Bts (Lib.bytesWorld w T s) w.heap.size s.data.toList := fun j hj => Lib.bytesWorld_cell w T s j (by simpa using hj)

theorem Bts.unfrozen (w : World) (T : TypeId) (s : ByteArray) {a : Nat} (ha : a < s.size) : (Lib.bytesWorld w T s).frozen? ⟨w.heap.size, a, none⟩ = false := by
  unfold World.frozen?
  rw [Lib.bytesWorld_at_new]
  have : s.size ≤ (Lib.bytesCells w T s).size := by simp [Lib.bytesCells]
  simp; omega
def StrBox (w : World) (g : Nat) (x1 x2 x3 : ByteArray) : Prop := w.heap[g]? = some (.cells #[.string x1, .string x2, .string x3] 9 (0, 0))
theorem StrBox.below {w w' : World} {g : Nat} {x1 x2 x3 : ByteArray} (h : StrBox w g x1 x2 x3) (b : Below w.heap.size w w') : StrBox w' g x1 x2 x3 := (b.block g (Array.getElem?_eq_some_iff.1 h).1).trans h

set_option maxHeartbeats 16000000 in
set_option maxRecDepth 100000 in
theorem CalendarReads_any (s : ByteArray) (z zt by' : Int) (w : World) (_hs : s.size ≤ maxLen) (h0 : 0 ≤ by') (h1 : by' ≤ 255) (htab : Tab w) (hev : ErrV w) :
    Calls Tryd.prog 13 #[.string s, .int .i64 z, .int .i64 zt, .int .u8 by'] w fun e w' => e = .returned (.bool true) ∧ Below w.heap.size w w' := by
  obtain ⟨x, hx⟩ : ∃ x : UInt8, by' = (x.toNat : Int) := ⟨UInt8.ofNat by'.toNat, by rw [UInt8.toNat_ofNat']; omega⟩
  subst hx
  have HT : Hid (∀ w', Below w.heap.size w w' → Tab w' ∧ ErrV w') := fun w' b => ⟨htab.below b, hev.below b⟩
  clear htab hev h0 h1
  go_enter Tryd.func13, Tryd.ntmps13
  go_wp2_with fail
  refine (Fold_v z 182621 (by omega) (by omega) _ 182621 rfl).mono ?_; rintro e w' ⟨j, rfl, hj, rfl⟩
  obtain ⟨Y, M, D, V, d1, _, d2, _, hV⟩ := date_back j hj
  go_wp2_with fail
  refine (d1.out _).mono ?_; rintro e w1 ⟨rfl, b1⟩
  have B1 := keepC b1 (below_new w1 (.cells #[.int .i64 Y, .int .i64 M, .int .i64 D] 23))
  go_wp2_with fail
  refine (d2.out _).mono ?_; rintro e w2 ⟨rfl, b2⟩
  have B2 := keepC B1 b2
  have hcv := Lib.run_convert_string_bytes (P := Tryd.prog) w2 9 51 5 V Tryd.underlying9 Tryd.underlying51 Tryd.underlying5
  have hcap := grownCap_ge w2 V.size 0 5
  have hmk := Bts.made w2 5 V
  have hfz : ∀ a, a < 10 → (Lib.bytesWorld w2 5 V).frozen? ⟨w2.heap.size, a, none⟩ = false := fun a ha => Bts.unfrozen w2 5 V (by omega)
  have hbw := Lib.bytesWorld_below w2 5 V
  have hbs := Lib.bytesWorld_size w2 5 V
  obtain ⟨cp, hcp⟩ : ∃ c, c = grownCap w2 V.size 0 5 := ⟨_, rfl⟩
  obtain ⟨wB, hwB⟩ : ∃ x, x = Lib.bytesWorld w2 5 V := ⟨_, rfl⟩
  obtain ⟨g, hg⟩ : ∃ g, g = w2.heap.size := ⟨_, rfl⟩
  obtain ⟨L, hL⟩ : ∃ L, L = V.data.toList := ⟨_, rfl⟩
  have hLl : L.length = 10 := by rw [hL]; simpa using hV
  rw [← hcp, ← hwB, ← hg] at hcv
  rw [← hcp, hV] at hcap
  rw [← hwB, ← hg, ← hL] at hmk
  rw [← hwB, ← hg] at hfz hbs
  rw [← hwB] at hbw
  rw [hV] at hcv
  have BB : Below w.heap.size w wB := keepC B2 hbw
  have hgw : w.heap.size ≤ g := by rw [hg]; exact B2.size
  have HFZ := Lib.hid hfz
  have HMK := Lib.hid hmk
  have HLL := Lib.hid hLl
  have HGS : Hid (g < wB.heap.size) := by unfold Hid; omega
  clear hcp hwB hg hL hfz hmk hLl hbs hbw hV
  go_wp2_with fail
  refine (Fold_v zt 10 (by omega) (by omega) _ 10 rfl).mono ?_; rintro e w' ⟨a, rfl, ha, rfl⟩
  clear hcv
  have hca := HMK.out a (by rw [HLL.out]; exact ha)
  have hfa := HFZ.out a ha
  have hst := HMK.out.set (show a < L.length by rw [HLL.out]; exact ha) x
  have hl2 : (L.set a x).length = 10 := by rw [List.length_set]; exact HLL.out
  obtain ⟨L2, hL2⟩ : ∃ l, l = L.set a x := ⟨_, rfl⟩
  rw [← hL2] at hst hl2
  have BS : Below w.heap.size w (wB.setCell ⟨g, a, none⟩ (.int .u8 (x.toNat : Int))) := BB.setCell hgw _
  obtain ⟨wC, hwC⟩ : ∃ c, c = wB.setCell ⟨g, a, none⟩ (.int .u8 (x.toNat : Int)) := ⟨_, rfl⟩
  rw [← hwC] at hst BS
  obtain ⟨X1, hX1⟩ : ∃ X : ByteArray, X = ⟨(L2.take 10).toArray⟩ := ⟨_, rfl⟩
  obtain ⟨X2, hX2⟩ : ∃ X : ByteArray, X = ⟨(L2.take 7).toArray⟩ := ⟨_, rfl⟩
  have K : Hid (∀ w', Below wC.heap.size wC w' → (convert 51 9 (.slice (some ⟨g, 0, none⟩) 10 cp)).run Tryd.prog w' = .ok (.string X1) w' ∧ (convert 51 9 (.slice (some ⟨g, 0, none⟩) 7 cp)).run Tryd.prog w' = .ok (.string X2) w' ∧ Below wC.heap.size wC w') := fun w' b => by
    have h := hst.keep b
    refine ⟨?_, ?_, b⟩
    · rw [hX1]; exact h.text (by omega)
    · rw [hX2]; exact h.text (by omega)
  obtain ⟨q, hq⟩ : ∃ q : Nat, min ((s.size : Nat) : Int) 20 = (q : Int) := ⟨(min ((s.size : Nat) : Int) 20).toNat, by omega⟩
  have hqs : q ≤ s.size := by omega
  have hc7 : (7 : Int) ≤ (cp : Int) := by omega
  have hc7n : 7 ≤ cp := by omega
  have hc10 : (10 : Int) ≤ (cp : Int) := by omega
  have hgl := HGS.out
  have HWC := Lib.hid hwC
  clear hst hl2 hL2 hX1 hX2 hwC
  go_wp2_with fail
  rw [← HWC.out]
  clear hca hfa
  go_region_held3 (fun w' => (convert 51 9 (.slice (some ⟨g, 0, none⟩) 10 cp)).run Tryd.prog w' = .ok (.string X1) w' ∧ (convert 51 9 (.slice (some ⟨g, 0, none⟩) 7 cp)).run Tryd.prog w' = .ok (.string X2) w' ∧ Below wC.heap.size wC w')
    (first | exact K.out _ (Below.refl _ _).drew | exact K.out _ (Below.refl _ _) | exact K.out _ ((Below.refl _ _).drew.alloc (Nat.le_refl _) _))
    (fail)
  generalize hU : s.extract 0 q = U
  clear hU hq hqs hc7 hc7n hc10 hcap
  have g3s := BS.size
  have BD : Below w.heap.size w ((wC.alloc (.cells #[.string U, .string X1, .string X2] 9)).drew) := (BS.alloc BS.size _).drew
  have hbox : StrBox ((wC.alloc (.cells #[.string U, .string X1, .string X2] 9)).drew) wC.heap.size U X1 X2 := by
    show StrBox (wC.alloc (.cells #[.string U, .string X1, .string X2] 9)) _ _ _ _
    unfold StrBox World.alloc
    simp
  have HBX := Lib.hid hbox
  have HBD := Lib.hid BD
  clear hbox BD
  go_wp2_with fail
  go_loopw [50] (fun s50 wr => ∃ i : Nat, i ≤ 3 ∧ s50 = .int .i64 (i : Int) ∧ Hid (StrBox wr wC.heap.size U X1 X2) ∧ Hid (Below w.heap.size w wr)) (fun s50 _ => 3 - (intOf s50).toNat)
  case atStart => exact ⟨0, by omega, rfl, HBX, HBD⟩
  case round =>
    obtain ⟨i, hi3, rfl, hbx, hbl⟩ := hrel
    by_cases hlt : i < 3
    · obtain ⟨u, hu⟩ : ∃ u : ByteArray, wr.cell? ⟨wC.heap.size, i, none⟩ = some (.string u) := by
        have h := hbx.out
        unfold StrBox at h
        have : i = 0 ∨ i = 1 ∨ i = 2 := by omega
        rcases this with rfl | rfl | rfl
        · exact ⟨U, by simp [World.cell?, h]⟩
        · exact ⟨X1, by simp [World.cell?, h]⟩
        · exact ⟨X2, by simp [World.cell?, h]⟩
      have PD := Lib.hid (fun w h k => ParseDate_v u w h k)
      have PR := Lib.hid (fun w => rParseDate_v u w)
      have PP := Lib.hid (fun w h k => ParsePeriod_v u w h k)
      have PQ := Lib.hid (fun w => rParsePeriod_v u w)
      go_wp2_with fail
      refine (PD.out _ (HT.out _ hbl.out).1 (HT.out _ hbl.out).2).mono ?_; rintro e v1 ⟨ya, ma, da, ea, rfl, hda, c1⟩
      have C1 : Below wr.heap.size wr v1 := c1
      have D1 := keepC C1 (below_new v1 (.cells #[.int .i64 ya, .int .i64 ma, .int .i64 da] 23))
      have Z1 := Lib.hid (DBox.new v1 ya ma da)
      go_wp2_with fail
      refine (PR.out _).mono ?_; rintro e v2 ⟨yb, mb, db, eb, rfl, hdb, c2⟩
      obtain ⟨rfl, rfl, rfl, rfl⟩ := hda.uniq hdb
      clear hda hdb
      have D2 := keepC D1 c2
      have D3 := keepC D2 (below_new v2 (.cells #[.int .i64 ya, .int .i64 ma, .int .i64 da] 23))
      have Z2 := Lib.hid ((Z1.out.below c2).below (below_new v2 (.cells #[.int .i64 ya, .int .i64 ma, .int .i64 da] 23)))
      have Z3 := Lib.hid (DBox.new v2 ya ma da)
      go_wp2_with fail
      refine (PP.out _ (HT.out _ (hbl.out.trans (D3.mono hbl.out.size))).1 (HT.out _ (hbl.out.trans (D3.mono hbl.out.size))).2).mono ?_; rintro e v3 ⟨pa, xa, rfl, hpa, c3⟩
      have D4 := keepC D3 c3
      go_wp2_with fail
      refine (PQ.out _).mono ?_; rintro e v4 ⟨pb, xb, rfl, hpb, c4⟩
      obtain ⟨rfl, rfl⟩ := hpa.uniq hpb
      clear hpa hpb
      have D5 := keepC D4 c4
      obtain ⟨⟨j0, j1, j2⟩, _⟩ := ((Z2.out.below c3).below c4).cells
      obtain ⟨⟨k0, k1, k2⟩, _⟩ := ((Z3.out.below c3).below c4).cells
      have NB : Hid (StrBox v4 wC.heap.size U X1 X2) := hbx.out.below D5
      have NL : Hid (Below w.heap.size w v4) := hbl.out.trans (D5.mono hbl.out.size)
      go_wp2_with fail
      go_roundw
      case rel => exact ⟨i + 1, by omega, by go_num, NB, NL⟩
      case measure => simp [intOf]; omega
    · obtain rfl : i = 3 := by omega
      go_wp2_with fail
      refine (awake_v _ (HT.out _ hbl.out).1).mono ?_; rintro e w9 ⟨rfl, b9⟩
      have BE := keepC hbl.out b9
      go_wp2_with fail
      go_ret
      exact ⟨rfl, BE⟩
end Go.Proofs.YtffnmejabphabaaDoor
