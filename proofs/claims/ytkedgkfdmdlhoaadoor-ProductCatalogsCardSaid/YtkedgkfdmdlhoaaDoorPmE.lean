import Derived.Test.YtkedgkfdmdlhoaaDoorLawPrdMany
/- Layer 9: the tape's catalog; products put into a row of one's own. -/
namespace Go.Proofs.YtkedgkfdmdlhoaaDoor.P9
open Go.RowKit Go.Sort C6

def ItA (w : World) (M : Nat) (u : It) : Prop := w.ownsRow M 52 2 (.slice u.a u.l.length u.c) u.l.length (atv u.l) ∧ u.l.length ≤ 14 ∧ Sz u.p u.l
theorem ItA.ok {w : World} {M : Nat} {u : It} (h : ItA w M u) : u.ok w := by
  obtain ⟨h1, h2, h3⟩ := h
  obtain ⟨ao', cp', e', r', _⟩ := RdA.of_row h1
  injection e' with e1 _ e3
  exact ⟨by rw [e1, e3]; exact r', h2, h3⟩
theorem rdP_of {w : World} {M n c : Nat} {a : Option Addr} {us : List It} (hl : us.length = n) (ho : w.ownsRow M 26 7 (.slice a n c) n (ptv us)) (its : ∀ u ∈ us, u.ok w) : RdP w a c us := by
  rcases ho.2 with ⟨e, h0⟩ | ⟨g, cap', cur, e, hb, hg, hn, hc, hs, hx⟩
  · injection e with e1 e2 e3
    exact ⟨by omega, by omega, .inl (List.eq_nil_of_length_eq_zero (by omega)), its⟩
  · cases e
    refine ⟨by omega, by unfold maxLen at hc; omega, .inr ⟨g, 0, rfl, fun j hj => ?_⟩, its⟩
    have key : ∀ q v, q < 7 → (ptv1 (us.getD j It.zero))[q]? = some v → w.cell? ⟨g, 0 + j * 7 + q, none⟩ = some v := fun q v hq hv => by
      rw [Nat.zero_add]
      have h1 := ptv_get us j hj q hq
      rw [hv] at h1
      rw [← hx, List.getElem?_take] at h1
      split at h1
      · simpa [World.cell?, hg] using h1
      · cases h1
    exact ⟨key 0 _ (by omega) rfl, key 1 _ (by omega) rfl, key 2 _ (by omega) rfl, key 3 _ (by omega) rfl, key 4 _ (by omega) rfl, key 5 _ (by omega) rfl, key 6 _ (by omega) rfl⟩
/-- the block of a row of products of one's own -/
structure Blk (w : World) (g m : Nat) : Prop where
  b : ∃ cur, w.heap[g]? = some (.cells cur 26 (0, 0)) ∧ m ≤ cur.size
theorem Blk.set {w : World} {g m : Nat} (h : Blk w g m) (j : Nat) (v : Value) : Blk (w.setCell ⟨g, j, none⟩ v) g m := by
  obtain ⟨cur, h1, h2⟩ := h.b
  exact ⟨cur.setIfInBounds j v, by simp [World.setCell, Array.getElem?_modify, h1], by simpa using h2⟩
theorem Blk.fz {w : World} {g m : Nat} (h : Blk w g m) (j : Nat) : w.frozen? ⟨g, j, none⟩ = false := by
  obtain ⟨cur, h1, h2⟩ := h.b
  simp [World.frozen?, h1]
theorem Blk.at {w : World} {g m : Nat} (h : Blk w g m) {j : Nat} (hj : j < m) (v : Value) : (w.setCell ⟨g, j, none⟩ v).cell? ⟨g, j, none⟩ = some v := by
  obtain ⟨cur, h1, h2⟩ := h.b
  have : j < cur.size := by omega
  simp [World.cell?, World.setCell, Array.getElem?_modify, h1, this]
theorem Blk.ne {w : World} {g m : Nat} (h : Blk w g m) {j q : Nat} (hj : q ≠ j) (v : Value) : (w.setCell ⟨g, j, none⟩ v).cell? ⟨g, q, none⟩ = w.cell? ⟨g, q, none⟩ := by
  obtain ⟨cur, h1, h2⟩ := h.b
  simp [World.cell?, World.setCell, Array.getElem?_modify, h1, Ne.symm hj]
theorem Blk.of {w : World} {M n c g : Nat} {xs : List Value} (h : w.ownsRow M 26 7 (.slice (some ⟨g, 0, none⟩) n c) n xs) : Blk w g (n * 7) := by
  rcases h.2 with ⟨e, h0⟩ | ⟨g', cap', cur, e, hb, hg, hn, hc, hs, hx⟩
  · cases e
  · cases e
    exact ⟨cur, hg, by rw [hs]; exact Nat.mul_le_mul_right 7 hn⟩
/-- seven cells of a row written -/
def set7o (w : World) (g k : Nat) (p : Pd) (v : Value) : World := ((((((w.setCell ⟨g, k, none⟩ (.string p.id)).setCell ⟨g, k + 1, none⟩ (.string p.co)).setCell ⟨g, k + 2, none⟩ (.string p.br)).setCell ⟨g, k + 3, none⟩ (.int .i64 p.d)).setCell ⟨g, k + 4, none⟩ (.int .i64 p.c)).setCell ⟨g, k + 5, none⟩ (.int .i64 p.a)).setCell ⟨g, k + 6, none⟩ v
theorem set7o_gb (w : World) (g k : Nat) (p : Pd) (v : Value) : w.grownBy (set7o w g k p v) (some g) :=
  gb_trans (gb_set w g k _) (gb_trans (gb_set _ g (k + 1) _) (gb_trans (gb_set _ g (k + 2) _) (gb_trans (gb_set _ g (k + 3) _) (gb_trans (gb_set _ g (k + 4) _) (gb_trans (gb_set _ g (k + 5) _) (gb_set _ g (k + 6) _))))))
theorem set7o_ne {w : World} {g m k q : Nat} (h : Blk w g m) (hq : q < k ∨ k + 7 ≤ q) (p : Pd) (v : Value) : (set7o w g k p v).cell? ⟨g, q, none⟩ = w.cell? ⟨g, q, none⟩ := by
  unfold set7o
  have h1 := h.set k (.string p.id)
  have h2 := h1.set (k + 1) (.string p.co)
  have h3 := h2.set (k + 2) (.string p.br)
  have h4 := h3.set (k + 3) (.int .i64 p.d)
  have h5 := h4.set (k + 4) (.int .i64 p.c)
  have h6 := h5.set (k + 5) (.int .i64 p.a)
  rw [h6.ne (by omega), h5.ne (by omega), h4.ne (by omega), h3.ne (by omega), h2.ne (by omega), h1.ne (by omega), h.ne (by omega)]
theorem set7o_at {w : World} {g m k : Nat} (h : Blk w g m) (hk : k + 7 ≤ m) (u : It) : Cl7 (set7o w g k u.p (.slice u.a u.l.length u.c)) g k u := by
  have h1 := h.set k (.string u.p.id)
  have h2 := h1.set (k + 1) (.string u.p.co)
  have h3 := h2.set (k + 2) (.string u.p.br)
  have h4 := h3.set (k + 3) (.int .i64 u.p.d)
  have h5 := h4.set (k + 4) (.int .i64 u.p.c)
  have h6 := h5.set (k + 5) (.int .i64 u.p.a)
  unfold set7o
  refine ⟨?_, ?_, ?_, ?_, ?_, ?_, ?_⟩
  · rw [h6.ne (by omega), h5.ne (by omega), h4.ne (by omega), h3.ne (by omega), h2.ne (by omega), h1.ne (by omega), h.at (by omega)]
  · rw [h6.ne (by omega), h5.ne (by omega), h4.ne (by omega), h3.ne (by omega), h2.ne (by omega), h1.at (by omega)]
  · rw [h6.ne (by omega), h5.ne (by omega), h4.ne (by omega), h3.ne (by omega), h2.at (by omega)]
  · rw [h6.ne (by omega), h5.ne (by omega), h4.ne (by omega), h3.at (by omega)]
  · rw [h6.ne (by omega), h5.ne (by omega), h4.at (by omega)]
  · rw [h6.ne (by omega), h5.at (by omega)]
  · rw [h6.at (by omega)]
theorem ItA.gb {w w' : World} {M N n c g : Nat} {u : It} {ys : List Value} (h : ItA w M u) (h2 : w.ownsRow N 26 7 (.slice (some ⟨g, 0, none⟩) n c) n ys) (k : w.grownBy w' (some g)) : ItA w' M u :=
  ⟨h.1.kept k (own_two h.1 h2), h.2⟩
/-- a product put into the list -/
theorem rdP_put {w : World} {M n c g r : Nat} {us : List It} {u : It} (hl : us.length = n) (ho : w.ownsRow M 26 7 (.slice (some ⟨g, 0, none⟩) n c) n (ptv us)) (its : ∀ u ∈ us, ItA w M u) (hu : ItA w M u) (hr : r < n) :
    RdP (set7o w g (r * 7) u.p (.slice u.a u.l.length u.c)) (some ⟨g, 0, none⟩) c (us.set r u) := by
  have h0 := rdP_of hl ho (fun u hu => (its u hu).ok)
  have hb := Blk.of ho
  have hgb := set7o_gb w g (r * 7) u.p (.slice u.a u.l.length u.c)
  refine ⟨by rw [List.length_set]; exact h0.le, h0.mx, .inr ⟨g, 0, rfl, fun i hi => ?_⟩, fun v hv => ?_⟩
  · rw [List.length_set] at hi
    by_cases e : r = i
    · subst e
      have : (us.set r u).getD r It.zero = u := by simp [List.getD, hi]
      rw [this, Nat.zero_add]
      exact set7o_at hb (by omega) u
    · have : (us.set r u).getD i It.zero = us.getD i It.zero := by simp [List.getD, e]
      rw [this]
      rcases h0.at7 with h1 | ⟨b, o, e1, h1⟩
      · rw [h1] at hi; simp at hi
      · cases e1
        have c7 := h1 i hi
        rw [Nat.zero_add] at c7 ⊢
        have hne : ∀ q, q < 7 → (set7o w g (r * 7) u.p (.slice u.a u.l.length u.c)).cell? ⟨g, i * 7 + q, none⟩ = w.cell? ⟨g, i * 7 + q, none⟩ := fun q hq => set7o_ne hb (by omega) _ _
        exact ⟨(hne 0 (by omega)).trans c7.c0, (hne 1 (by omega)).trans c7.c1, (hne 2 (by omega)).trans c7.c2, (hne 3 (by omega)).trans c7.c3, (hne 4 (by omega)).trans c7.c4, (hne 5 (by omega)).trans c7.c5, (hne 6 (by omega)).trans c7.c6⟩
  · rcases List.mem_or_eq_of_mem_set hv with hv | rfl
    · exact ((its v hv).gb ho hgb).ok
    · exact (hu.gb ho hgb).ok
/-- an ID put into the list -/
theorem rdP_id {w : World} {M n c g r : Nat} {us : List It} {s : ByteArray} (hl : us.length = n) (ho : w.ownsRow M 26 7 (.slice (some ⟨g, 0, none⟩) n c) n (ptv us)) (its : ∀ u ∈ us, ItA w M u) (hs : s.size ≤ 100) (hr : r < n) :
    ∃ us', us'.length = n ∧ RdP (w.setCell ⟨g, r * 7, none⟩ (.string s)) (some ⟨g, 0, none⟩) c us' := by
  have h0 := rdP_of hl ho (fun u hu => (its u hu).ok)
  have hb := Blk.of ho
  have hgb : w.grownBy (w.setCell ⟨g, r * 7, none⟩ (.string s)) (some g) := gb_set w g (r * 7) _
  obtain ⟨x, hx⟩ : ∃ x, x = us.getD r It.zero := ⟨_, rfl⟩
  have hxm : x ∈ us := by rw [hx]; have : r < us.length := by omega
                          simp [List.getD, this]
  refine ⟨us.set r ⟨⟨s, x.p.co, x.p.br, x.p.d, x.p.c, x.p.a⟩, x.a, x.l, x.c⟩, by rw [List.length_set, hl], by rw [List.length_set]; exact h0.le, h0.mx, .inr ⟨g, 0, rfl, fun i hi => ?_⟩, fun v hv => ?_⟩
  · rw [List.length_set] at hi
    rcases h0.at7 with h1 | ⟨b, o, e1, h1⟩
    · rw [h1] at hi; simp at hi
    · cases e1
      have c7 := h1 i hi
      rw [Nat.zero_add] at c7 ⊢
      by_cases e : r = i
      · subst e
        rw [← hx] at c7
        have : (us.set r ⟨⟨s, x.p.co, x.p.br, x.p.d, x.p.c, x.p.a⟩, x.a, x.l, x.c⟩).getD r It.zero = ⟨⟨s, x.p.co, x.p.br, x.p.d, x.p.c, x.p.a⟩, x.a, x.l, x.c⟩ := by simp [List.getD, hi]
        rw [this]
        exact ⟨hb.at (by omega) _, (hb.ne (by omega) _).trans c7.c1, (hb.ne (by omega) _).trans c7.c2, (hb.ne (by omega) _).trans c7.c3, (hb.ne (by omega) _).trans c7.c4, (hb.ne (by omega) _).trans c7.c5, (hb.ne (by omega) _).trans c7.c6⟩
      · have : (us.set r ⟨⟨s, x.p.co, x.p.br, x.p.d, x.p.c, x.p.a⟩, x.a, x.l, x.c⟩).getD i It.zero = us.getD i It.zero := by simp [List.getD, e]
        rw [this]
        exact ⟨(hb.ne (by omega) _).trans c7.c0, (hb.ne (by omega) _).trans c7.c1, (hb.ne (by omega) _).trans c7.c2, (hb.ne (by omega) _).trans c7.c3, (hb.ne (by omega) _).trans c7.c4, (hb.ne (by omega) _).trans c7.c5, (hb.ne (by omega) _).trans c7.c6⟩
  · rcases List.mem_or_eq_of_mem_set hv with hv | rfl
    · exact ((its v hv).gb ho hgb).ok
    · obtain ⟨k1, k2, k3⟩ := ((its x hxm).gb ho hgb).ok
      exact ⟨k1, k2, ⟨k3.co, k3.br, k3.at1, hs, k3.qb⟩⟩
/-- the tape's catalog under way -/
structure Mg (w wr : World) (M B i : Nat) (tao : Option Addr) (tn tcap j : Nat) (ao : Option Addr) (cap : Nat) (us : List It) : Prop where
  len : us.length = i
  own : wr.ownsRow M 26 7 (.slice ao i cap) i (ptv us)
  its : ∀ u ∈ us, ItA wr M u
  tap : Tap wr B tao tn tcap j
  gb : w.grownBy wr (some B)
  siz : M ≤ wr.heap.size

set_option maxHeartbeats 16000000 in
set_option maxRecDepth 100000 in
theorem Catalog_v (B : Nat) (tao : Option Addr) (tcap : Nat) (ts : List Int) (j0 : Nat) (w : World) (hb : Tap w B tao ts.length tcap j0) (ht : RdZ w tao tcap ts) (htB : 0 < (intz ts).length → ∀ b o, tao = some ⟨b, o, none⟩ → b < B) (hj : j0 ≤ 100) :
    Calls Tryd.prog 11 #[.pointer (some ⟨B, 0, none⟩), .int .i64 0, .int .i64 6] w fun e w' => ∃ (us : List It) (a : Option Addr) (c : Nat) (j : Nat), e = .returned (.slice a us.length c) ∧ us.length ≤ 6 ∧ j ≤ 200 ∧ Mg w w' w.heap.size B us.length tao ts.length tcap j a c us := by
  obtain ⟨i0, hi, hz0, hz1, hz2⟩ := info_parts infoPrd
  obtain ⟨M, hM⟩ : ∃ M, M = w.heap.size := ⟨_, rfl⟩
  have hBM : Hid (B < M ∧ M = w.heap.size) := ⟨by rw [hM]; exact hb.lt, hM⟩
  have HRT : Hid (∀ W, w.grownBy W (some B) → RdZ W tao tcap ts) := fun W h => ht.keep htB (gb_below h (Nat.le_of_lt hb.lt))
  have HTB := Lib.hid htB
  have NX := Lib.hid (Next_v B tao tcap ts j0 7 w hb ht (by omega) (by omega) (by omega) 7 rfl)
  obtain ⟨tn, htn⟩ : ∃ n, n = ts.length := ⟨_, rfl⟩
  have HTN := Lib.hid htn
  clear hb ht htB htn
  rw [← hM]
  clear hM
  go_enter Tryd.func11, Tryd.ntmps11
  go_wp2_with fail
  refine NX.out.mono ?_; rintro e w2 ⟨r, rfl, hr7, hgb2, hsz2, htp2⟩
  have M0 : Hid (Mg w w2 M B 0 tao ts.length tcap (j0 + 1 + 5 * 0) none 0 []) := ⟨rfl, ⟨rfl, .inl ⟨rfl, rfl⟩⟩, fun u hu => by simp at hu, htp2, hgb2, by rw [hBM.out.2]; exact hgb2.size⟩
  clear hgb2 hsz2 htp2
  go_wp2_with fail
  go_loopw [7, 13] (fun s7 s13 wr => ∃ (i : Nat) (ao : Option Addr) (cap : Nat) (us : List It), i ≤ r ∧ s13 = .int .i64 (i : Int) ∧ s7 = .slice ao i cap ∧ Hid (Mg w wr M B i tao ts.length tcap (j0 + 1 + 5 * i) ao cap us)) (fun _ s13 _ => r - (intOf s13).toNat)
  case atStart => exact ⟨0, none, 0, [], by omega, rfl, rfl, M0⟩
  case round =>
    obtain ⟨i, ao, cap, us, hin, rfl, rfl, hmn⟩ := hrel
    by_cases hlt : i < r
    · have hlt2 : (i : Int) < (r : Int) := by omega
      have IT := Lib.hid (Item_v i (by omega) (i : Int) rfl B tao tcap ts (j0 + 1 + 5 * i) wr hmn.out.tap (HRT.out wr hmn.out.gb) HTB.out (by omega))
      go_wp2_with fail
      refine IT.out.mono ?_; rintro e w3 ⟨p, ga, l, ca, cb, rfl, hitm, hca, hcb, hl, hown, hgb, htp⟩
      have hmo := hmn.out
      have hl2 : l.length = 2 := by rcases hl with h | h <;> rw [h] <;> rfl
      have HI : Hid (Sz p l ∧ l.length = 2) := ⟨item_sz2 hitm hca hcb hl, hl2⟩
      have kne : ∀ {n c k : Nat} {e : TypeId} {a : Option Addr} {xs : List Value}, wr.ownsRow M e k (.slice a n c) n xs → (Value.slice a n c).ownBlock = none ∨ (Value.slice a n c).ownBlock ≠ some B := fun h => row_ne h (by have := hBM.out; omega)
      have HO3 : Hid (w3.ownsRow M 26 7 (.slice ao i cap) i (ptv us)) := hmo.own.kept hgb (kne hmo.own)
      have HA3 : Hid (∀ u ∈ us, ItA w3 M u) := fun u hu => ⟨(hmo.its u hu).1.kept hgb (kne (hmo.its u hu).1), (hmo.its u hu).2⟩
      have HN3 : Hid (w3.ownsRow M 52 2 (.slice (some ⟨ga, 0, none⟩) 2 2) 2 (atv l)) := ⟨hown.1, hown.2.imp id fun ⟨g, c', cur, hv, h1, h2⟩ => ⟨g, c', cur, hv, Nat.le_trans hmo.siz h1, h2⟩⟩
      have HG3 : Hid (w.grownBy w3 (some B)) := gb_trans hmo.gb hgb
      have HS3 : Hid (M ≤ w3.heap.size ∧ us.length = i ∧ i < r) := ⟨Nat.le_trans hmo.siz hgb.size, hmo.len, hlt⟩
      have HT3 := Lib.hid htp
      have hi2 : i + 1 ≤ 7 := by omega
      clear hitm hca hcb hl hown hgb htp hmo hl2 kne
      go_wp2_with (at_builtin; refine wpList_append_own _ rfl _ _ 37 rfl M 26 i0 (.agg #[.string ByteArray.empty, .string ByteArray.empty, .string ByteArray.empty, .int .i64 0, .int .i64 0, .int .i64 0, .slice none 0 0]) 7 96 Tryd.underlying37 hi hz0 hz1 hz2 rfl (by omega) _ _ _ rfl (HO3.out.alloc _) ⟨w3.heap.size, 0, none⟩ 1 1 [.string p.id, .string p.co, .string p.br, .int .i64 p.d, .int .i64 p.c, .int .i64 p.a, .slice (some ⟨ga, 0, none⟩) 2 2] rfl rfl (seven_cell _ _ _ _ _) (by intro u hu; simp at hu; rcases hu with rfl | rfl | rfl | rfl | rfl | rfl | rfl <;> rfl) (by unfold maxLen; omega) (by omega) (by simp; exact Nat.le_trans HS3.out.1 (Nat.le_succ _)) ?_; intro v5 w5 hown5 hgr5 _)
      obtain ⟨a5, c5, rfl⟩ := of_row_n hown5
      obtain ⟨hI3, hI4⟩ := HI.out
      have hown6 : w5.ownsRow M 26 7 (.slice a5 (i + 1) c5) (i + 1) (ptv (us ++ [⟨p, some ⟨ga, 0, none⟩, l, 2⟩])) := by rw [ptv_snoc]; show w5.ownsRow M 26 7 (.slice a5 (i + 1) c5) (i + 1) (ptv us ++ [.string p.id, .string p.co, .string p.br, .int .i64 p.d, .int .i64 p.c, .int .i64 p.a, .slice (some ⟨ga, 0, none⟩) l.length 2]); rw [hI4]; exact hown5
      have MN : Hid (Mg w w5 M B (i + 1) tao ts.length tcap (j0 + 1 + 5 * (i + 1)) a5 c5 (us ++ [⟨p, some ⟨ga, 0, none⟩, l, 2⟩])) := by
        have hO := HO3.out.alloc (.cells #[.string p.id, .string p.co, .string p.br, .int .i64 p.d, .int .i64 p.c, .int .i64 p.a, .slice (some ⟨ga, 0, none⟩) 2 2] 26)
        have hrow : ∀ k, (Value.slice ao i cap).ownBlock = some k → M ≤ k := fun k e => (HO3.out.lt k e).1
        refine ⟨by rw [List.length_append, HS3.out.2.1]; rfl, hown6, fun u hu => ?_, ?_, ?_, ?_⟩
        · rcases List.mem_append.1 hu with hu | hu
          · obtain ⟨h1, h2⟩ := HA3.out u hu
            exact ⟨(h1.alloc _).kept hgr5 (own_two (h1.alloc _) hO), h2⟩
          · simp at hu
            subst hu
            have h1 := HN3.out
            refine ⟨?_, by show l.length ≤ 14; omega, hI3⟩
            show w5.ownsRow M 52 2 (.slice (some ⟨ga, 0, none⟩) l.length 2) l.length (atv l)
            rw [hI4]
            exact (h1.alloc _).kept hgr5 (own_two (h1.alloc _) hO)
        · have h1 := (HT3.out.alloc (.cells #[.string p.id, .string p.co, .string p.br, .int .i64 p.d, .int .i64 p.c, .int .i64 p.a, .slice (some ⟨ga, 0, none⟩) 2 2] 26)).grown hgr5 (fun e => by have := hrow B e.symm; have := hBM.out; omega)
          exact h1
        · have h3 := HG3.out
          have ha := below_new w3 (.cells #[.string p.id, .string p.co, .string p.br, .int .i64 p.d, .int .i64 p.c, .int .i64 p.a, .slice (some ⟨ga, 0, none⟩) 2 2] 26)
          exact ⟨hgr5.os.trans (ha.os.trans h3.os), hgr5.tape.trans (ha.tape.trans h3.tape), hgr5.output.trans (ha.output.trans h3.output), Nat.le_trans h3.size (Nat.le_trans ha.size hgr5.size), fun k hk hne => by
            have hk3 := Nat.lt_of_lt_of_le hk h3.size
            exact (hgr5.block k (Nat.lt_of_lt_of_le hk3 ha.size) (fun e => by have := hrow k e.symm; have := hBM.out; omega)).trans ((ha.block k hk3).trans (h3.block k hk hne))⟩
        · have h1 := hgr5.size
          rw [World.size_alloc] at h1
          have := HS3.out.1
          omega
      clear hown5 hown6 hgr5 hI3 hI4
      go_wp2_with fail
      go_roundw
      case rel => exact ⟨i + 1, a5, c5, _, by omega, by go_num, by go_num, MN⟩
      case measure => simp [intOf]; omega
    · obtain rfl : i = r := by omega
      have hlt2 : ¬ (i : Int) < (i : Int) := by omega
      have hlen := hmn.out.len
      go_wp2_with fail
      go_ret
      refine ⟨us, ao, cap, by rw [hlen]; rfl, by omega, j0 + 1 + 5 * i, by omega, ?_⟩
      rw [hlen]
      exact hmn.out
end Go.Proofs.YtkedgkfdmdlhoaaDoor.P9
