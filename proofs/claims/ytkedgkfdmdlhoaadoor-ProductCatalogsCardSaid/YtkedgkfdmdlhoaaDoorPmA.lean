import Derived.Test.YtkedgkfdmdlhoaaDoorPvC
import Derived.Deep.QuietTactic
import Derived.BigQuiet
/- Layer 9: lists of products; ValidateCatalog of the code. -/
namespace Go.Proofs.YtkedgkfdmdlhoaaDoor.P9
open Go.RowKit Go.Sort C6

/-- a product in a list: its fields and its row of attributes -/
structure It where
  p : Pd
  a : Option Addr
  l : List Atr
  c : Nat
def It.zero : It := ⟨Pd.zero, none, [], 0⟩
def It.ok (w : World) (u : It) : Prop := RdA w u.a u.c u.l ∧ u.l.length ≤ 14 ∧ Sz u.p u.l
structure Cl7 (w : World) (b k : Nat) (u : It) : Prop where
  c0 : w.cell? ⟨b, k, none⟩ = some (.string u.p.id)
  c1 : w.cell? ⟨b, k + 1, none⟩ = some (.string u.p.co)
  c2 : w.cell? ⟨b, k + 2, none⟩ = some (.string u.p.br)
  c3 : w.cell? ⟨b, k + 3, none⟩ = some (.int .i64 u.p.d)
  c4 : w.cell? ⟨b, k + 4, none⟩ = some (.int .i64 u.p.c)
  c5 : w.cell? ⟨b, k + 5, none⟩ = some (.int .i64 u.p.a)
  c6 : w.cell? ⟨b, k + 6, none⟩ = some (.slice u.a u.l.length u.c)
theorem Cl7.keep {w w' : World} {b k : Nat} {u : It} (h : Cl7 w b k u) (hb : ∀ (o : Nat) v, w.cell? ⟨b, o, none⟩ = some v → w'.cell? ⟨b, o, none⟩ = some v) : Cl7 w' b k u :=
  ⟨hb _ _ h.c0, hb _ _ h.c1, hb _ _ h.c2, hb _ _ h.c3, hb _ _ h.c4, hb _ _ h.c5, hb _ _ h.c6⟩
theorem It.ok.below {w w' : World} {u : It} (h : u.ok w) (b : Below w.heap.size w w') : u.ok w' := ⟨h.1.below b, h.2⟩
/-- a slice of products that reads a list -/
structure RdP (w : World) (ao : Option Addr) (cap : Nat) (us : List It) : Prop where
  le : us.length ≤ cap
  mx : cap ≤ 9223372036854775807
  at7 : us = [] ∨ ∃ b o, ao = some ⟨b, o, none⟩ ∧ ∀ i, i < us.length → Cl7 w b (o + i * 7) (us.getD i It.zero)
  ok : ∀ u ∈ us, u.ok w
theorem RdP.below {w w' : World} {ao : Option Addr} {cap : Nat} {us : List It} (h : RdP w ao cap us) (k : Below w.heap.size w w') : RdP w' ao cap us := by
  refine ⟨h.le, h.mx, ?_, fun u hu => (h.ok u hu).below k⟩
  rcases h.at7 with h0 | ⟨b, o, e, h1⟩
  · exact .inl h0
  · refine .inr ⟨b, o, e, fun i hi => (h1 i hi).keep fun o v hv => ?_⟩
    exact (World.cell?_of_block (a := ⟨b, o, none⟩) (k.block b (World.block_lt_of_cell? _ _ hv))).trans hv
theorem RdP.at {w : World} {ao : Option Addr} {cap : Nat} {us : List It} (h : RdP w ao cap us) {i : Nat} (hi : i < us.length) : ∃ b o, ao = some ⟨b, o, none⟩ ∧ ∀ i, i < us.length → Cl7 w b (o + i * 7) (us.getD i It.zero) := by
  rcases h.at7 with h0 | h1
  · rw [h0] at hi; simp at hi
  · exact h1
/-- whether a string is not after another: as the program compares them -/
def leS (x y : ByteArray) : Bool := Op.bytesLess x.toList y.toList || (x.toList == y.toList)
/-- the first error from the i-th product on -/
noncomputable def cE (us : List It) : Nat → Nat → Int
  | 0, _ => 0
  | m + 1, i => if perr (us.getD i It.zero).p (us.getD i It.zero).l ≠ 0 then perr (us.getD i It.zero).p (us.getD i It.zero).l else if 0 < i ∧ leS (us.getD i It.zero).p.id (us.getD (i - 1) It.zero).p.id = true then 96 else cE us m (i + 1)
noncomputable def cerr (us : List It) : Int := if 200 < us.length then 95 else cE us us.length 0

set_option maxHeartbeats 16000000 in
set_option maxRecDepth 100000 in
theorem ValidateCatalog_v (ao : Option Addr) (cap : Nat) (us : List It) (w : World) (h : RdP w ao cap us) (hev : ErrV w) :
    Calls Tryd.prog 17 #[.slice ao us.length cap] w fun e w' => e = .returned (.int .i64 (cerr us)) ∧ Below w.heap.size w w' := by
  obtain ⟨n, hn⟩ : ∃ n, n = us.length := ⟨_, rfl⟩
  have HEV := Lib.hid (fun (W : World) (b : Below w.heap.size w W) => hev.below b)
  have HR := Lib.hid h
  have HN := Lib.hid hn
  obtain ⟨hc1, hc2⟩ : n ≤ cap ∧ cap ≤ 9223372036854775807 := by have := h.le; have := h.mx; omega
  rw [← hn]
  clear h hev
  go_enter Tryd.func17, Tryd.ntmps17
  by_cases hm : 200 < n
  · have hm2 : (200 : Int) < (n : Int) := by omega
    have HX : Hid (95 = cerr us) := by unfold Hid cerr; rw [← hn, if_pos hm]
    clear hn
    go_wp2_with fail
    go_ret
    exact ⟨ret_int HX.out, Below.refl _ _⟩
  have hm2 : ¬ (200 : Int) < (n : Int) := by omega
  have HX : Hid (cE us n 0 = cerr us) := by unfold Hid cerr; rw [← hn, if_neg hm]
  clear hn
  go_wp2_with fail
  go_loopw [11] (fun s11 wr => ∃ i : Nat, i ≤ n ∧ s11 = .int .i64 (i : Int) ∧ Hid (cE us (n - i) i = cerr us) ∧ Hid (Below w.heap.size w wr)) (fun s11 _ => n - (intOf s11).toNat)
  case atStart => exact ⟨0, by omega, rfl, HX.out, Below.refl _ _⟩
  case round =>
    obtain ⟨i, hin, rfl, hce, hbl⟩ := hrel
    by_cases hlt : i < n
    · have hlt2 : (i : Int) < (n : Int) := by omega
      have hr := HR.out.below hbl.out
      have hil : i < us.length := by rw [← HN.out]; exact hlt
      obtain ⟨b, o, rfl, hat⟩ := hr.at hil
      obtain ⟨u, hu⟩ : ∃ u, u = us.getD i It.zero := ⟨_, rfl⟩
      obtain ⟨pu, au, lu, cu⟩ := u
      have hcu := hat i hil
      have hok := hr.ok (us.getD i It.zero) (by simp [List.getD, hil])
      rw [← hu] at hcu hok
      obtain ⟨c0, c1, c2, c3, c4, c5, c6⟩ := hcu
      obtain ⟨hra, hl14, hsz⟩ := hok
      simp only at c0 c1 c2 c3 c4 c5 c6 hra hl14 hsz
      obtain ⟨nu, hnu⟩ : ∃ n, n = lu.length := ⟨_, rfl⟩
      rw [← hnu] at c6
      obtain ⟨W6, hW6⟩ : ∃ W, W = wr.alloc (.cells #[.string pu.id, .string pu.co, .string pu.br, .int .i64 pu.d, .int .i64 pu.c, .int .i64 pu.a, .slice au nu cu] 26) := ⟨_, rfl⟩
      obtain ⟨g6, hg6⟩ : ∃ g, g = wr.heap.size := ⟨_, rfl⟩
      have b6 : Below wr.heap.size wr W6 := by rw [hW6]; exact below_new _ _
      have P6 : Hid (PB W6 g6 pu (.slice au nu cu)) := by rw [hW6, hg6]; exact PB.new _ _ _
      have HB6 : Hid (Below w.heap.size w W6) := keep hbl.out b6
      obtain ⟨x, hx⟩ : ∃ x, x = perr pu lu := ⟨_, rfl⟩
      have CV : Hid (Calls Tryd.prog 8 #[.agg #[.string pu.id, .string pu.co, .string pu.br, .int .i64 pu.d, .int .i64 pu.c, .int .i64 pu.a, .slice au nu cu]] W6 fun e w' => e = .returned (.int .i64 x) ∧ Below W6.heap.size W6 w') := by
        have := Validate_v pu au cu lu W6 (hra.below b6) (by omega) hsz (HEV.out W6 HB6.out)
        rw [← hnu, ← hx] at this
        exact this
      have HR6 := Lib.hid (hr.below b6)
      have HE : Hid (cE us (n - i) i = if x ≠ 0 then x else if 0 < i ∧ leS pu.id (us.getD (i - 1) It.zero).p.id = true then 96 else cE us (n - (i + 1)) (i + 1)) := by
        obtain ⟨m, hm'⟩ : ∃ m, n - i = m + 1 := ⟨n - i - 1, by omega⟩
        have hm1 : n - (i + 1) = m := by omega
        unfold Hid
        rw [hm', hm1]
        show (if perr (us.getD i It.zero).p (us.getD i It.zero).l ≠ 0 then perr (us.getD i It.zero).p (us.getD i It.zero).l else if 0 < i ∧ leS (us.getD i It.zero).p.id (us.getD (i - 1) It.zero).p.id = true then 96 else cE us m (i + 1)) = _
        rw [← hu, hx]
      have HLT : Hid (i < n ∧ n = us.length) := ⟨hlt, HN.out⟩
      clear hra hl14 hsz hnu hu hat hr hil b6 hx hbl
      go_upto_region 6 with fail
      rw [← hW6]
      try rw [← hg6]
      clear hW6 hg6 c0 c1 c2 c3 c4 c5 c6
      obtain ⟨k0, k1, k2, k3, k4, k5, k6⟩ := P6.out.cells
      go_wp2_with fail
      refine CV.out.mono ?_; rintro e w7 ⟨rfl, b7⟩
      have P7 := Lib.hid (P6.out.below b7)
      have HR7 := Lib.hid (HR6.out.below b7)
      have HB7 : Hid (Below w.heap.size w w7) := keep HB6.out b7
      clear k0 k1 k2 k3 k4 k5 k6 b7
      obtain ⟨k0, k1, k2, k3, k4, k5, k6⟩ := P7.out.cells
      by_cases hx0 : x = 0
      · have hxb : (x != 0) = false := by rw [hx0]; rfl
        by_cases hi0 : i = 0
        · subst hi0
          have HC : Hid (cE us (n - 1) 1 = cerr us) := by
            have h1 := HE.out
            rw [if_neg (by rw [hx0]; exact fun h => h rfl), if_neg (by omega)] at h1
            exact h1.symm.trans hce.out
          clear hx0
          go_wp2_with fail
          go_quiet (fail)
          go_wp2_with fail
          go_roundw
          case rel => exact ⟨1, by omega, by go_num, HC.out, drewN_belowQ HB7.out _⟩
          case measure => simp [intOf]; omega
        · obtain ⟨m, rfl⟩ : ∃ m, i = m + 1 := ⟨i - 1, by omega⟩
          have hml : m < us.length := by have := HLT.out; omega
          obtain ⟨b', o', e', hat⟩ := HR7.out.at hml
          cases e'
          obtain ⟨d0, _, _, _, _, _, _⟩ := hat m hml
          obtain ⟨s, hs⟩ : ∃ s, s = (us.getD m It.zero).p.id := ⟨_, rfl⟩
          rw [← hs] at d0
          have hmn : (0 : Int) < ((m + 1 : Nat) : Int) := by omega
          have hmn2 : (m : Int) < (n : Int) := by omega
          have HE2 := HE.out
          rw [if_neg (by rw [hx0]; exact fun h => h rfl), Nat.add_sub_cancel, ← hs] at HE2
          have HE3 := Lib.hid HE2
          clear hx0 hat hs HE2
          cases hA : Op.bytesLess pu.id.toList s.toList with
          | true =>
            have HC : Hid (96 = cerr us) := by
              have h1 := HE3.out
              rw [if_pos ⟨by omega, by unfold leS; rw [hA]; rfl⟩] at h1
              exact h1.symm.trans hce.out
            go_wp2_with fail
            go_quiet (fail)
            go_wp2_with fail
            go_ret
            exact ⟨ret_int HC.out, drewN_belowQ HB7.out _⟩
          | false =>
            cases hB : (pu.id.toList == s.toList) with
            | true =>
              have HC : Hid (96 = cerr us) := by
                have h1 := HE3.out
                rw [if_pos ⟨by omega, by unfold leS; rw [hA, hB]; rfl⟩] at h1
                exact h1.symm.trans hce.out
              go_wp2_with fail
              go_quiet (fail)
              go_wp2_with fail
              go_ret
              exact ⟨ret_int HC.out, drewN_belowQ HB7.out _⟩
            | false =>
              have HC : Hid (cE us (n - (m + 1 + 1)) (m + 1 + 1) = cerr us) := by
                have h1 := HE3.out
                rw [if_neg (by unfold leS; rw [hA, hB]; simp)] at h1
                exact h1.symm.trans hce.out
              go_wp2_with fail
              go_quiet (fail)
              go_wp2_with fail
              go_roundw
              case rel => exact ⟨m + 1 + 1, by omega, by go_num, HC.out, drewN_belowQ HB7.out _⟩
              case measure => simp [intOf]; omega
      · have hxb : (x != 0) = true := bne_iff_ne.2 hx0
        have HC : Hid (x = cerr us) := by
          have h1 := HE.out
          rw [if_pos hx0] at h1
          exact h1.symm.trans hce.out
        clear hx0
        go_wp2_with fail
        go_ret
        exact ⟨ret_int HC.out, HB7.out⟩
    · obtain rfl : i = n := by omega
      have hlt2 : ¬ (i : Int) < (i : Int) := by omega
      have HC : Hid (0 = cerr us) := by
        have h1 := hce.out
        rw [Nat.sub_self] at h1
        exact h1
      go_wp2_with fail
      go_ret
      exact ⟨ret_int HC.out, hbl.out⟩
end Go.Proofs.YtkedgkfdmdlhoaaDoor.P9
