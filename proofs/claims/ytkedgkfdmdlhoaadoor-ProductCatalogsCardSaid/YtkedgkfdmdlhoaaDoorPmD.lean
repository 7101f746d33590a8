import Derived.Test.YtkedgkfdmdlhoaaDoorPmA
import Derived.Test.YtkedgkfdmdlhoaaDoorPrdXi
/- Layer 9: Find of the code and of the reference. -/
namespace Go.Proofs.YtkedgkfdmdlhoaaDoor.P9
open Go.RowKit Go.Sort C6

/-- the product with an ID, from the i-th on -/
def fI (us : List It) (id : ByteArray) : Nat → Nat → It × Bool
  | 0, _ => (It.zero, false)
  | m + 1, i => if ((us.getD i It.zero).p.id.toList == id.toList) = true then (us.getD i It.zero, true) else fI us id m (i + 1)
def FPost (us : List It) (id : ByteArray) (w : World) (e : Ending) (w' : World) : Prop := ∃ (u : It) (b : Bool) (a : Option Addr) (c : Nat), fI us id us.length 0 = (u, b) ∧ e = .returned (.tuple #[.agg #[.string u.p.id, .string u.p.co, .string u.p.br, .int .i64 u.p.d, .int .i64 u.p.c, .int .i64 u.p.a, .slice a u.l.length c], .bool b]) ∧ RdA w' a c u.l ∧ Below w.heap.size w w'
theorem own_rdw {w : World} {base n : Nat} {v : Value} {l : List Atr} {t : TypeId} (h : w.ownsRow base t 2 v n (atv l)) : ∃ a c, v = .slice a l.length c ∧ RdA w a c l ∧ offB a l (fun b => base ≤ b) := by
  obtain ⟨a, c, e, r, o, _⟩ := RdA.of_row h
  exact ⟨a, c, e, r, o⟩

set_option maxHeartbeats 16000000 in
set_option maxRecDepth 100000 in
theorem Find_v (ao : Option Addr) (cap : Nat) (us : List It) (id : ByteArray) (w : World) (h : RdP w ao cap us) :
    Calls Tryd.prog 14 #[.slice ao us.length cap, .string id] w (FPost us id w) := by
  obtain ⟨n, hn⟩ : ∃ n, n = us.length := ⟨_, rfl⟩
  obtain ⟨W1, hW1⟩ : ∃ W, W = w.alloc (.cells #[.string ⟨#[]⟩, .string ⟨#[]⟩, .string ⟨#[]⟩, .int .i64 0, .int .i64 0, .int .i64 0, .slice none 0 0] 26) := ⟨_, rfl⟩
  obtain ⟨g4, hg4⟩ : ∃ g, g = w.heap.size := ⟨_, rfl⟩
  have b1 : Below w.heap.size w W1 := by rw [hW1]; exact below_new _ _
  have s1 : W1.heap.size = w.heap.size + 1 := by rw [hW1]; exact World.size_alloc _ _
  have Z1 : Hid (PB W1 g4 Pd.zero (.slice none 0 0)) := by rw [hW1, hg4]; exact PB.zero w
  have HB1 := Lib.hid b1
  have HR := Lib.hid (h.below b1)
  have HN := Lib.hid hn
  have HRW := Lib.hid h
  have HG : Hid (g4 = w.heap.size ∧ W1.heap.size = g4 + 1) := ⟨hg4, by omega⟩
  obtain ⟨hc1, hc2⟩ : n ≤ cap ∧ cap ≤ 9223372036854775807 := by have := h.le; have := h.mx; omega
  rw [← hn]
  have H0 : Hid (fI us id n 0 = fI us id us.length 0) := by unfold Hid; rw [hn]
  clear h hn b1
  go_enter Tryd.func14, Tryd.ntmps14
  go_wp2_with fail
  rw [← hW1]
  try rw [← hg4]
  clear hW1 hg4 s1
  go_loopw [10] (fun s10 wr => ∃ i : Nat, i ≤ n ∧ s10 = .int .i64 (i : Int) ∧ Hid (fI us id (n - i) i = fI us id us.length 0) ∧ Hid (Below W1.heap.size W1 wr)) (fun s10 _ => n - (intOf s10).toNat)
  case atStart => exact ⟨0, by omega, rfl, H0, Below.refl _ _⟩
  case round =>
    obtain ⟨i, hin, rfl, hfi, hbl⟩ := hrel
    by_cases hlt : i < n
    · have hlt2 : (i : Int) < (n : Int) := by omega
      have hr := HR.out.below hbl.out
      have hil : i < us.length := by rw [← HN.out]; exact hlt
      obtain ⟨b, o, rfl, hat⟩ := hr.at hil
      obtain ⟨u, hu⟩ : ∃ u, u = us.getD i It.zero := ⟨_, rfl⟩
      obtain ⟨pu, au, lu, cu⟩ := u
      have hcu := hat i hil
      have hok := hr.ok (us.getD i It.zero) (by simp [List.getD, hil])
      rw [← hu] at hcu hok
      obtain ⟨c0, c1, c2, c3, c4, c5, c6⟩ := hcu
      obtain ⟨hra, hl14, hsz⟩ := hok
      simp only at c0 c1 c2 c3 c4 c5 c6 hra hl14 hsz
      obtain ⟨nu, hnu⟩ : ∃ n, n = lu.length := ⟨_, rfl⟩
      rw [← hnu] at c6
      obtain ⟨W6, hW6⟩ : ∃ W, W = wr.alloc (.cells #[.string pu.id, .string pu.co, .string pu.br, .int .i64 pu.d, .int .i64 pu.c, .int .i64 pu.a, .slice au nu cu] 26) := ⟨_, rfl⟩
      obtain ⟨g6, hg6⟩ : ∃ g, g = wr.heap.size := ⟨_, rfl⟩
      have b6 : Below wr.heap.size wr W6 := by rw [hW6]; exact below_new _ _
      have P6 : Hid (PB W6 g6 pu (.slice au nu cu)) := by rw [hW6, hg6]; exact PB.new _ _ _
      have HB6 : Hid (Below W1.heap.size W1 W6) := keep hbl.out b6
      have HRA6 := Lib.hid (hra.below b6)
      have HLN : Hid (nu = lu.length ∧ lu.length ≤ 14) := ⟨hnu, hl14⟩
      have HE : Hid (fI us id (n - i) i = if (pu.id.toList == id.toList) = true then (⟨pu, au, lu, cu⟩, true) else fI us id (n - (i + 1)) (i + 1)) := by
        obtain ⟨m, hm'⟩ : ∃ m, n - i = m + 1 := ⟨n - i - 1, by omega⟩
        have hm1 : n - (i + 1) = m := by omega
        unfold Hid
        rw [hm', hm1]
        show (if ((us.getD i It.zero).p.id.toList == id.toList) = true then (us.getD i It.zero, true) else fI us id m (i + 1)) = _
        rw [← hu]
      have HOF : Hid (offB au lu (fun b => b < g4)) := by
        have h1 := (HRW.out.ok (us.getD i It.zero) (by simp [List.getD, hil])).1.lt
        rw [← hu] at h1
        exact fun h0 b o e => by have := h1 h0 b o e; have := HG.out; omega
      clear hra hl14 hsz hnu hu hat hr hil b6 hbl
      go_upto_region 4 with fail
      rw [← hW6]
      try rw [← hg6]
      clear hW6 hg6 c0 c1 c2 c3 c4 c5 c6
      obtain ⟨k0, k1, k2, k3, k4, k5, k6⟩ := P6.out.cells
      cases he : (pu.id.toList == id.toList) with
      | true =>
        have HF : Hid (fI us id us.length 0 = (⟨pu, au, lu, cu⟩, true)) := by
          have h1 := HE.out
          rw [if_pos he] at h1
          exact hfi.out.symm.trans h1
        have CP := Lib.hid (by have := copied_v pu au cu lu W6 HRA6.out (by have := HLN.out.2; omega); rw [← HLN.out.1] at this; exact this)
        go_wp2_with fail
        refine CP.out.mono ?_; rintro e w7 ⟨v, rfl, hown, b7⟩
        obtain ⟨a7, c7, rfl, hrd, hof⟩ := own_rdw hown
        have z7 := Z1.out.below (keep HB6.out b7)
        obtain ⟨f0, f1, f2, f3, f4, f5, f6⟩ := z7.fz
        have hgb := set7_gb w7 g4 pu (.slice a7 lu.length c7)
        have HQ : Hid (Below w.heap.size w (set7 w7 g4 pu (.slice a7 lu.length c7)) ∧ RdA (set7 w7 g4 pu (.slice a7 lu.length c7)) a7 c7 lu) := ⟨set7_below (keep HB1.out (keep HB6.out b7)) (by have := HG.out; omega) z7.lt _ _, hrd.grown (row := some g4) (fun h0 b o e q => by have h1 := hof h0 b o e; have h2 := Option.some.inj q; have := HG.out; have := HB6.out.size; omega) hgb⟩
        obtain ⟨r0, r1, r2, r3, r4, r5, r6⟩ := z7.cells
        clear k0 k1 k2 k3 k4 k5 k6 hown hrd hof hgb z7 b7
        unfold pv
        go_wp2_with fail
        refine bodyPost_ret (v := .tuple #[.agg #[.string pu.id, .string pu.co, .string pu.br, .int .i64 pu.d, .int .i64 pu.c, .int .i64 pu.a, .slice a7 lu.length c7], .bool true]) (by simp [results, Tryd.results14, go_sem, r0, r1, r2, r3, r4, r5, r6]) rfl ?_
        exact ⟨_, _, a7, c7, HF.out, rfl, HQ.out.2, HQ.out.1⟩
      | false =>
        have HF : Hid (fI us id (n - (i + 1)) (i + 1) = fI us id us.length 0) := by
          have h1 := HE.out
          rw [if_neg (by rw [he]; decide)] at h1
          exact h1.symm.trans hfi.out
        go_wp2_with fail
        go_roundw
        case rel => exact ⟨i + 1, by omega, by go_num, HF, HB6⟩
        case measure => simp [intOf]; omega
    · obtain rfl : i = n := by omega
      have hlt2 : ¬ (i : Int) < (i : Int) := by omega
      have HF : Hid (fI us id us.length 0 = (It.zero, false)) := by
        have h1 := hfi.out
        rw [Nat.sub_self] at h1
        exact h1.symm
      have zr := Z1.out.below hbl.out
      obtain ⟨f0, f1, f2, f3, f4, f5, f6⟩ := zr.fz
      obtain ⟨z0, z1, z2, z3, z4, z5, z6⟩ := zr.cells
      have HQ : Hid (Below w.heap.size w (set7 wr g4 Pd.zero (.slice none 0 0))) := set7_below (keep HB1.out hbl.out) (by have := HG.out; omega) zr.lt _ _
      clear zr
      go_wp2_with fail
      refine bodyPost_ret (v := .tuple #[.agg #[.string ⟨#[]⟩, .string ⟨#[]⟩, .string ⟨#[]⟩, .int .i64 0, .int .i64 0, .int .i64 0, .slice none 0 0], .bool false]) (by simp [results, Tryd.results14, go_sem, z0, z1, z2, z3, z4, z5, z6]) rfl ?_
      exact ⟨_, _, none, 0, HF.out, rfl, RdA.nil _, HQ.out⟩

set_option maxHeartbeats 16000000 in
set_option maxRecDepth 100000 in
theorem rFind_v (ao : Option Addr) (cap : Nat) (us : List It) (id : ByteArray) (w : World) (h : RdP w ao cap us) :
    Calls Tryd.prog 15 #[.slice ao us.length cap, .string id] w (FPost us id w) := by
  obtain ⟨n, hn⟩ : ∃ n, n = us.length := ⟨_, rfl⟩
  obtain ⟨W1, hW1⟩ : ∃ W, W = w.alloc (.cells #[.string ⟨#[]⟩, .string ⟨#[]⟩, .string ⟨#[]⟩, .int .i64 0, .int .i64 0, .int .i64 0, .slice none 0 0] 26) := ⟨_, rfl⟩
  obtain ⟨g4, hg4⟩ : ∃ g, g = w.heap.size := ⟨_, rfl⟩
  have b1 : Below w.heap.size w W1 := by rw [hW1]; exact below_new _ _
  have s1 : W1.heap.size = w.heap.size + 1 := by rw [hW1]; exact World.size_alloc _ _
  have Z1 : Hid (PB W1 g4 Pd.zero (.slice none 0 0)) := by rw [hW1, hg4]; exact PB.zero w
  have HB1 := Lib.hid b1
  have HR := Lib.hid (h.below b1)
  have HN := Lib.hid hn
  have HRW := Lib.hid h
  have HG : Hid (g4 = w.heap.size ∧ W1.heap.size = g4 + 1) := ⟨hg4, by omega⟩
  obtain ⟨hc1, hc2⟩ : n ≤ cap ∧ cap ≤ 9223372036854775807 := by have := h.le; have := h.mx; omega
  rw [← hn]
  have H0 : Hid (fI us id n 0 = fI us id us.length 0) := by unfold Hid; rw [hn]
  clear h hn b1
  go_enter Tryd.func15, Tryd.ntmps15
  go_wp2_with fail
  rw [← hW1]
  try rw [← hg4]
  clear hW1 hg4 s1
  go_loopw [10] (fun s10 wr => ∃ i : Nat, i ≤ n ∧ s10 = .int .i64 (i : Int) ∧ Hid (fI us id (n - i) i = fI us id us.length 0) ∧ Hid (Below W1.heap.size W1 wr)) (fun s10 _ => n - (intOf s10).toNat)
  case atStart => exact ⟨0, by omega, rfl, H0, Below.refl _ _⟩
  case round =>
    obtain ⟨i, hin, rfl, hfi, hbl⟩ := hrel
    by_cases hlt : i < n
    · have hlt2 : (i : Int) < (n : Int) := by omega
      have hr := HR.out.below hbl.out
      have hil : i < us.length := by rw [← HN.out]; exact hlt
      obtain ⟨b, o, rfl, hat⟩ := hr.at hil
      obtain ⟨u, hu⟩ : ∃ u, u = us.getD i It.zero := ⟨_, rfl⟩
      obtain ⟨pu, au, lu, cu⟩ := u
      have hcu := hat i hil
      have hok := hr.ok (us.getD i It.zero) (by simp [List.getD, hil])
      rw [← hu] at hcu hok
      obtain ⟨c0, c1, c2, c3, c4, c5, c6⟩ := hcu
      obtain ⟨hra, hl14, hsz⟩ := hok
      simp only at c0 c1 c2 c3 c4 c5 c6 hra hl14 hsz
      obtain ⟨nu, hnu⟩ : ∃ n, n = lu.length := ⟨_, rfl⟩
      rw [← hnu] at c6
      obtain ⟨W6, hW6⟩ : ∃ W, W = wr.alloc (.cells #[.string pu.id, .string pu.co, .string pu.br, .int .i64 pu.d, .int .i64 pu.c, .int .i64 pu.a, .slice au nu cu] 26) := ⟨_, rfl⟩
      obtain ⟨g6, hg6⟩ : ∃ g, g = wr.heap.size := ⟨_, rfl⟩
      have b6 : Below wr.heap.size wr W6 := by rw [hW6]; exact below_new _ _
      have P6 : Hid (PB W6 g6 pu (.slice au nu cu)) := by rw [hW6, hg6]; exact PB.new _ _ _
      have HB6 : Hid (Below W1.heap.size W1 W6) := keep hbl.out b6
      have HRA6 := Lib.hid (hra.below b6)
      have HLN : Hid (nu = lu.length ∧ lu.length ≤ 14) := ⟨hnu, hl14⟩
      have HE : Hid (fI us id (n - i) i = if (pu.id.toList == id.toList) = true then (⟨pu, au, lu, cu⟩, true) else fI us id (n - (i + 1)) (i + 1)) := by
        obtain ⟨m, hm'⟩ : ∃ m, n - i = m + 1 := ⟨n - i - 1, by omega⟩
        have hm1 : n - (i + 1) = m := by omega
        unfold Hid
        rw [hm', hm1]
        show (if ((us.getD i It.zero).p.id.toList == id.toList) = true then (us.getD i It.zero, true) else fI us id m (i + 1)) = _
        rw [← hu]
      have HOF : Hid (offB au lu (fun b => b < g4)) := by
        have h1 := (HRW.out.ok (us.getD i It.zero) (by simp [List.getD, hil])).1.lt
        rw [← hu] at h1
        exact fun h0 b o e => by have := h1 h0 b o e; have := HG.out; omega
      clear hra hl14 hsz hnu hu hat hr hil b6 hbl
      go_upto_region 4 with fail
      rw [← hW6]
      try rw [← hg6]
      clear hW6 hg6 c0 c1 c2 c3 c4 c5 c6
      obtain ⟨k0, k1, k2, k3, k4, k5, k6⟩ := P6.out.cells
      cases he : (pu.id.toList == id.toList) with
      | true =>
        have HF : Hid (fI us id us.length 0 = (⟨pu, au, lu, cu⟩, true)) := by
          have h1 := HE.out
          rw [if_pos he] at h1
          exact hfi.out.symm.trans h1
        have z7 := Z1.out.below HB6.out
        obtain ⟨f0, f1, f2, f3, f4, f5, f6⟩ := z7.fz
        have hgb := set7_gb W6 g4 pu (.slice au nu cu)
        have HQ : Hid (Below w.heap.size w (set7 W6 g4 pu (.slice au nu cu)) ∧ (RdA (set7 W6 g4 pu (.slice au nu cu)) au cu lu)) := ⟨set7_below (keep HB1.out HB6.out) (by have := HG.out; omega) z7.lt _ _, HRA6.out.grown (row := some g4) (fun h0 b o e q => by have h1 := HOF.out h0 b o e; have h2 := Option.some.inj q; omega) hgb⟩
        obtain ⟨r0, r1, r2, r3, r4, r5, r6⟩ := z7.cells
        clear hgb z7
        go_wp2_with fail
        refine bodyPost_ret (v := .tuple #[.agg #[.string pu.id, .string pu.co, .string pu.br, .int .i64 pu.d, .int .i64 pu.c, .int .i64 pu.a, .slice au nu cu], .bool true]) (by simp [results, Tryd.results15, go_sem, r0, r1, r2, r3, r4, r5, r6]) rfl ?_
        exact ⟨_, _, au, cu, HF.out, by rw [HLN.out.1], HQ.out.2, HQ.out.1⟩
      | false =>
        have HF : Hid (fI us id (n - (i + 1)) (i + 1) = fI us id us.length 0) := by
          have h1 := HE.out
          rw [if_neg (by rw [he]; decide)] at h1
          exact h1.symm.trans hfi.out
        go_wp2_with fail
        go_roundw
        case rel => exact ⟨i + 1, by omega, by go_num, HF, HB6⟩
        case measure => simp [intOf]; omega
    · obtain rfl : i = n := by omega
      have hlt2 : ¬ (i : Int) < (i : Int) := by omega
      have HF : Hid (fI us id us.length 0 = (It.zero, false)) := by
        have h1 := hfi.out
        rw [Nat.sub_self] at h1
        exact h1.symm
      have zr := Z1.out.below hbl.out
      obtain ⟨f0, f1, f2, f3, f4, f5, f6⟩ := zr.fz
      obtain ⟨z0, z1, z2, z3, z4, z5, z6⟩ := zr.cells
      have HQ : Hid (Below w.heap.size w (set7 wr g4 Pd.zero (.slice none 0 0))) := set7_below (keep HB1.out hbl.out) (by have := HG.out; omega) zr.lt _ _
      clear zr
      go_wp2_with fail
      refine bodyPost_ret (v := .tuple #[.agg #[.string ⟨#[]⟩, .string ⟨#[]⟩, .string ⟨#[]⟩, .int .i64 0, .int .i64 0, .int .i64 0, .slice none 0 0], .bool false]) (by simp [results, Tryd.results15, go_sem, z0, z1, z2, z3, z4, z5, z6]) rfl ?_
      exact ⟨_, _, none, 0, HF.out, rfl, RdA.nil _, HQ.out⟩
end Go.Proofs.YtkedgkfdmdlhoaaDoor.P9
