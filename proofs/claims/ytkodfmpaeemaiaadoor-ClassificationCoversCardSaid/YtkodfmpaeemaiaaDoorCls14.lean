import Derived.Test.YtkodfmpaeemaiaaDoorCls13
import Derived.Test.YtkodfmpaeemaiaaDoorCls12
/- Package classification and its reference: Validate. -/
namespace Go.Proofs.YtkodfmpaeemaiaaDoor.C6
open Go.RowKit Go.Sort

/-- a classification's box -/
def Cls (w : World) (g : Nat) (nm : ByteArray) (ao : Option Addr) (n cap : Nat) : Prop := w.heap[g]? = some (.cells #[.string nm, .slice ao n cap] 24 (0, 0))
theorem Cls.c0 {w : World} {g : Nat} {nm : ByteArray} {ao : Option Addr} {n cap : Nat} (h : Cls w g nm ao n cap) : w.cell? ⟨g, 0, none⟩ = some (.string nm) := by
  unfold Cls at h
  simp [World.cell?, h]
theorem Cls.c1 {w : World} {g : Nat} {nm : ByteArray} {ao : Option Addr} {n cap : Nat} (h : Cls w g nm ao n cap) : w.cell? ⟨g, 1, none⟩ = some (.slice ao n cap) := by
  unfold Cls at h
  simp [World.cell?, h]
theorem Cls.lt {w : World} {g : Nat} {nm : ByteArray} {ao : Option Addr} {n cap : Nat} (h : Cls w g nm ao n cap) : g < w.heap.size := (Array.getElem?_eq_some_iff.1 h).1
theorem Cls.below {w w' : World} {g : Nat} {nm : ByteArray} {ao : Option Addr} {n cap : Nat} (h : Cls w g nm ao n cap) (b : Below w.heap.size w w') : Cls w' g nm ao n cap := (b.block g h.lt).trans h
theorem Cls.new (w : World) (nm : ByteArray) (ao : Option Addr) (n cap : Nat) : Cls (w.alloc (.cells #[.string nm, .slice ao n cap] 24)) w.heap.size nm ao n cap := by
  unfold Cls World.alloc
  simp

set_option maxHeartbeats 4000000 in
theorem Validate_v (nm : ByteArray) (ao : Option Addr) (cap : Nat) (l : List ByteArray) (w : World) (h : RdS w ao cap l) (hev : ErrV w) :
    Calls Tryd.prog 9 #[.agg #[.string nm, .slice ao l.length cap]] w fun e w' => e = .returned (.int .i64 (val l)) ∧ Below w.heap.size w w' := by
  obtain ⟨n, hn⟩ : ∃ n, n = l.length := ⟨_, rfl⟩
  have hcp : n ≤ cap := by have := h.1; rw [strs_length] at this; omega
  have hcp2 := h.2.1
  have b1 := below_new w (.cells #[.string nm, .slice ao l.length cap] 24)
  have k1 := Cls.new w nm ao l.length cap
  obtain ⟨W1, hW1⟩ : ∃ W1, W1 = w.alloc (.cells #[.string nm, .slice ao l.length cap] 24) := ⟨_, rfl⟩
  rw [← hW1] at b1 k1
  obtain ⟨g, hg⟩ : ∃ g, g = w.heap.size := ⟨_, rfl⟩
  rw [← hg] at k1
  rw [← hn] at hW1 k1 ⊢
  have HB1 := Lib.hid b1
  have HK1 := Lib.hid k1
  have HR1 := Lib.hid (h.below b1)
  have HN := Lib.hid hn
  have HE := Lib.hid (hev.below b1)
  have q0 := k1.c0
  have q1 := k1.c1
  by_cases hc : n = 0 ∨ 200 < n
  · have HX : Hid ((61 : Int) = val l) := (val_count (by rw [← HN.out]; exact hc)).symm
    clear b1 k1 h hev hn
    rcases hc with h0 | h2
    · have e1 : ((n : Int) == 0) = true := beq_iff_eq.2 (by omega)
      clear h0
      go_enter Tryd.func9, Tryd.ntmps9
      go_wp2_with fail
      rw [← hW1]
      go_ret
      exact ⟨ret_i64 HX.out, HB1.out⟩
    · have e1 : ((n : Int) == 0) = false := beq_eq_false_iff_ne.2 (by omega)
      go_enter Tryd.func9, Tryd.ntmps9
      go_wp2_with fail
      rw [← hW1]
      go_ret
      exact ⟨ret_i64 HX.out, HB1.out⟩
  · have e1 : ((n : Int) == 0) = false := beq_eq_false_iff_ne.2 (by omega)
    have hn2 : n ≤ 200 := by omega
    have HC : Hid (¬ (l.length = 0 ∨ 200 < l.length)) := by rw [← HN.out]; exact hc
    clear b1 k1 h hev hn hc
    go_enter Tryd.func9, Tryd.ntmps9
    go_wp2_with fail
    rw [← hW1, ← hg]
    clear hW1 hg q0 q1
    go_loopw [19] (fun s19 wr => ∃ i : Nat, i ≤ n ∧ s19 = .int .i64 (i : Int) ∧ Hid (∀ j, j < i → vst l j = 0) ∧ Hid (Below W1.heap.size W1 wr)) (fun s19 _ => n - (intOf s19).toNat)
    case atStart => exact ⟨0, by omega, rfl, fun j hj => by omega, Below.refl _ _⟩
    case round =>
      obtain ⟨i, hin, rfl, hpre, hbl⟩ := hrel
      have hBB : Hid (Below w.heap.size w wr) := HB1.out.trans (hbl.out.mono HB1.out.size)
      by_cases hlt : i < n
      · have hlt2 : (i : Int) < (n : Int) := by omega
        have hil : i < l.length := by have := HN.out; omega
        have hrd := HR1.out.below hbl.out
        obtain ⟨b, o, rfl, hc⟩ := hrd.atS (i := i) hil
        have q1 := (HK1.out.below hbl.out).c1
        obtain ⟨s, hs⟩ : ∃ s, s = l.getD i ByteArray.empty := ⟨_, rfl⟩
        rw [← hs] at hc
        have hCN := checkNext_v (some ⟨b, o, none⟩) cap (l.take i) s wr (hrd.takeS i) (HE.out.below hbl.out) (by rw [List.length_take]; omega)
        have hvs : vs (l.take i) s = vst l i := by rw [hs]; rfl
        rw [hvs, List.length_take, Nat.min_eq_left (Nat.le_of_lt hil)] at hCN
        obtain ⟨v, hv⟩ : ∃ v, v = vst l i := ⟨_, rfl⟩
        rw [← hv] at hCN
        have CN := Lib.hid hCN
        have hic : i ≤ cap := by omega
        have hicI : (i : Int) ≤ (cap : Int) := by omega
        by_cases h0 : v = 0
        · have HP2 : Hid (∀ j, j < i + 1 → vst l j = 0) := fun j hj => by
            by_cases hji : j < i
            · exact hpre.out j hji
            · obtain rfl : j = i := by omega
              rw [← hv]; exact h0
          subst h0
          clear hv hCN hvs hs hrd
          go_wp2_with fail
          refine CN.out.mono ?_; rintro e w2 ⟨rfl, b2⟩
          have HB2 := Lib.hid (keep hbl.out b2)
          clear b2
          go_wp2_with fail
          go_roundw
          case rel => exact ⟨i + 1, by omega, by go_num, HP2, HB2⟩
          case measure => simp [intOf]; omega
        · have HX : Hid (v = val l) := by unfold Hid; rw [hv]; exact (val_hit HC.out hil hpre.out (by rw [← hv]; exact h0)).symm
          have e2 : (v == 0) = false := beq_eq_false_iff_ne.2 h0
          have e3 : (v != 0) = true := by rw [bne, e2]; rfl
          clear hv hCN hvs hs hrd h0
          go_wp2_with fail
          refine CN.out.mono ?_; rintro e w2 ⟨rfl, b2⟩
          have HB2 := Lib.hid (keep hBB.out b2)
          clear b2
          go_wp2_with fail
          go_ret
          exact ⟨ret_i64 HX.out, HB2.out⟩
      · obtain rfl : i = n := by omega
        have hlt2 : ¬ (i : Int) < (i : Int) := by omega
        have HX : Hid ((0 : Int) = val l) := (val_ok HC.out (fun j hj => hpre.out j (by have := HN.out; omega))).symm
        go_wp2_with fail
        go_ret
        exact ⟨ret_i64 HX.out, hBB.out⟩

theorem has_v (ao : Option Addr) (cap : Nat) (bs : List ByteArray) (s : ByteArray) (w : World) (h : RdS w ao cap bs) (hl : bs.length ≤ 1000) :
    Calls Tryd.prog 26 #[.slice ao bs.length cap, .string s] w fun e w' => e = .returned (.bool (Lib.containsS bs s)) ∧ w = w' := by
  have HR := Lib.hid h
  have HC : Hid (Lib.containsS bs s = true ↔ s ∈ bs) := Lib.containsS_iff bs s
  obtain ⟨n, hn⟩ : ∃ n, n = bs.length := ⟨_, rfl⟩
  rw [← hn] at hl ⊢
  have HN := Lib.hid hn
  clear h hn
  go_enter Tryd.func26, Tryd.ntmps26
  go_wp2_with fail
  go_loop [9] (fun s9 => ∃ i : Nat, i ≤ n ∧ s9 = .int .i64 (i : Int) ∧ Hid (∀ j, j < i → bs.getD j ByteArray.empty ≠ s)) (fun s9 => n - (intOf s9).toNat)
  case atStart => exact ⟨0, by omega, rfl, fun j hj => by omega⟩
  case round =>
    obtain ⟨i, hin, rfl, hpre⟩ := hrel
    by_cases hlt : i < n
    · have hlt2 : (i : Int) < (n : Int) := by omega
      have hil : i < bs.length := by have := HN.out; omega
      obtain ⟨b, o, rfl, hc⟩ := HR.out.atS (i := i) hil
      obtain ⟨x, hx⟩ : ∃ x, x = bs.getD i ByteArray.empty := ⟨_, rfl⟩
      rw [← hx] at hc
      by_cases hxa : x = s
      · have HX : Hid (true = Lib.containsS bs s) := (HC.out.2 (by rw [← hxa, hx]; simp [List.getD, hil])).symm
        have hxt := eq_text hxa
        clear hx hxa
        go_wp2_with fail
        go_ret
        exact ⟨ret_bool HX.out, rfl⟩
      · have HN2 : Hid (∀ j, j < i + 1 → bs.getD j ByteArray.empty ≠ s) := fun j hj => by
          by_cases hji : j < i
          · exact hpre.out j hji
          · obtain rfl : j = i := by omega
            rw [← hx]; exact hxa
        have hxt := ne_text hxa
        clear hx hxa
        go_wp2_with fail
        go_round
        case rel => exact ⟨i + 1, by omega, by go_num, HN2⟩
        case measure => simp [intOf]; omega
    · obtain rfl : i = n := by omega
      have hlt2 : ¬ (i : Int) < (i : Int) := by omega
      have HX : Hid (false = Lib.containsS bs s) := by
        unfold Hid
        cases hw : Lib.containsS bs s
        · rfl
        · obtain ⟨j, hj, e⟩ := List.getElem_of_mem (HC.out.1 hw)
          exact absurd (by simp [List.getD, hj, e]) (hpre.out j (by have := HN.out; omega))
      go_wp2_with fail
      go_ret
      exact ⟨ret_bool HX.out, rfl⟩

set_option maxHeartbeats 8000000 in
theorem rValidate_v (nm : ByteArray) (ao : Option Addr) (cap : Nat) (l : List ByteArray) (w : World) (h : RdS w ao cap l) (hsz : ∀ s ∈ l, s.size ≤ 1000) :
    Calls Tryd.prog 10 #[.agg #[.string nm, .slice ao l.length cap]] w fun e w' => e = .returned (.int .i64 (val l)) ∧ Below w.heap.size w w' := by
  obtain ⟨n, hn⟩ : ∃ n, n = l.length := ⟨_, rfl⟩
  have hcp : n ≤ cap := by have := h.1; rw [strs_length] at this; omega
  have hcp2 := h.2.1
  have b1 := below_new w (.cells #[.string nm, .slice ao l.length cap] 24)
  have k1 := Cls.new w nm ao l.length cap
  obtain ⟨W1, hW1⟩ : ∃ W1, W1 = w.alloc (.cells #[.string nm, .slice ao l.length cap] 24) := ⟨_, rfl⟩
  rw [← hW1] at b1 k1
  obtain ⟨g, hg⟩ : ∃ g, g = w.heap.size := ⟨_, rfl⟩
  rw [← hg] at k1
  rw [← hn] at hW1 k1 ⊢
  have HB1 := Lib.hid b1
  have HK1 := Lib.hid k1
  have HR1 := Lib.hid (h.below b1)
  have HN := Lib.hid hn
  have HSZ : Hid (∀ s ∈ l, s.size ≤ 1000) := hsz
  by_cases hc : n = 0 ∨ 200 < n
  · have HX : Hid ((61 : Int) = val l) := (val_count (by rw [← HN.out]; exact hc)).symm
    clear b1 k1 h hn hsz
    rcases hc with h0 | h2
    · have e1 : n < 1 := by omega
      clear h0
      go_enter Tryd.func10, Tryd.ntmps10
      go_wp2_with fail
      rw [← hW1]
      go_ret
      exact ⟨ret_i64 HX.out, HB1.out⟩
    · have e1 : ¬ n < 1 := by omega
      have e1' : ¬ (n : Int) < 1 := by omega
      go_enter Tryd.func10, Tryd.ntmps10
      go_wp2_with fail
      rw [← hW1]
      go_ret
      exact ⟨ret_i64 HX.out, HB1.out⟩
  · have e1 : ¬ n < 1 := by omega
    have e1' : ¬ (n : Int) < 1 := by omega
    have hn2 : n ≤ 200 := by omega
    have HC : Hid (¬ (l.length = 0 ∨ 200 < l.length)) := by rw [← HN.out]; exact hc
    clear b1 k1 h hn hc hsz
    go_enter Tryd.func10, Tryd.ntmps10
    go_wp2_with fail
    rw [← hW1, ← hg]
    clear hW1 hg
    go_loopw [20] (fun s20 wr => ∃ i : Nat, i ≤ n ∧ s20 = .int .i64 (i : Int) ∧ Hid (∀ j, j < i → vst l j = 0) ∧ Hid (Below W1.heap.size W1 wr)) (fun s20 _ => n - (intOf s20).toNat)
    case atStart => exact ⟨0, by omega, rfl, fun j hj => by omega, Below.refl _ _⟩
    case round =>
      obtain ⟨i, hin, rfl, hpre, hbl⟩ := hrel
      have hBB : Hid (Below w.heap.size w wr) := HB1.out.trans (hbl.out.mono HB1.out.size)
      by_cases hlt : i < n
      · have hlt2 : (i : Int) < (n : Int) := by omega
        have hil : i < l.length := by have := HN.out; omega
        have hrd := HR1.out.below hbl.out
        obtain ⟨b, o, rfl, hc⟩ := hrd.atS (i := i) hil
        have HRD := Lib.hid hrd
        have HK := Lib.hid (HK1.out.below hbl.out)
        obtain ⟨s, hs⟩ : ∃ s, s = l.getD i ByteArray.empty := ⟨_, rfl⟩
        rw [← hs] at hc
        have hss : s.size ≤ 1000 := HSZ.out s (by rw [hs]; simp [List.getD, hil])
        have hvs : vs (l.take i) s = vst l i := by rw [hs]; rfl
        have htl : (l.take i).length = i := by rw [List.length_take]; omega
        have hIs := fun w => Is_v s hss w
        have HF : Hid (∀ v : Int, vst l i = v → v ≠ 0 → v = val l) := fun v h1 h2 => by rw [← h1]; exact (val_hit HC.out hil hpre.out (by rw [h1]; exact h2)).symm
        have HG : Hid (vst l i = 0 → ∀ j, j < i + 1 → vst l j = 0) := fun h1 j hj => by
          by_cases hji : j < i
          · exact hpre.out j hji
          · obtain rfl : j = i := by omega
            exact h1
        cases hP : P s with
        | none =>
          have HX := Lib.hid (HF.out 60 (by rw [← hvs]; exact vs_code hP) (by decide))
          rw [hP] at hIs
          have IS := Lib.hid hIs
          clear hIs hP hvs hs hrd htl
          go_wp2_with fail
          refine (IS.out _).mono ?_; rintro e w2 ⟨rfl, b2⟩
          have HB2 := Lib.hid (keep hBB.out b2)
          clear b2
          go_wp2_with fail
          go_ret
          exact ⟨ret_i64 HX.out, HB2.out⟩
        | some p =>
          rw [hP] at hIs
          have IS := Lib.hid hIs
          have hPV := fun w => rParent_v s hss w
          obtain ⟨pa, hpa⟩ : ∃ x, x = (par s).1 := ⟨_, rfl⟩
          have hp2 : par s = (pa, true) := by rw [hpa]; unfold par; rw [hP]
          rw [hp2] at hPV
          have PV := Lib.hid hPV
          obtain ⟨cn, hcn⟩ : ∃ x, x = Lib.containsS (l.take i) pa := ⟨_, rfl⟩
          have hHas : ∀ w, RdS w (some ⟨b, o, none⟩) cap l → Calls Tryd.prog 26 #[.slice (some ⟨b, o, none⟩) i cap, .string pa] w fun e w' => e = .returned (.bool cn) ∧ w = w' := fun w h => by
            have := has_v (some ⟨b, o, none⟩) cap (l.take i) pa w (h.takeS i) (by omega)
            rw [htl, ← hcn] at this
            exact this
          have HS := Lib.hid hHas
          have last : Hid (∀ (hno : ¬ (0 < i ∧ 0 ≤ cmpS (l.getD (i - 1) emp) s)), (pa.toList.isEmpty = true ∧ vst l i = 0) ∨ (pa.toList.isEmpty = false ∧ cn = false ∧ vst l i = 63) ∨ (pa.toList.isEmpty = false ∧ cn = true ∧ vst l i = 0)) := fun hno => by
            have hno2 : ¬ (0 < (l.take i).length ∧ 0 ≤ cmpS ((l.take i).getD ((l.take i).length - 1) emp) s) := by
              rcases vst_get hil with h | h
              · rw [htl] at h ⊢; rw [h]; exact hno
              · rw [htl]; omega
            cases he : pa.toList.isEmpty
            · cases hc : cn
              · exact .inr (.inl ⟨rfl, rfl, by rw [← hvs]; exact vs_parent hP hno2 ⟨by rw [← hpa]; exact he, by rw [← hpa, ← hcn]; exact hc⟩⟩)
              · exact .inr (.inr ⟨rfl, rfl, by rw [← hvs]; exact vs_ok hP hno2 (fun h => by rw [← hpa, ← hcn, hc] at h; cases h.2)⟩)
            · exact .inl ⟨rfl, by rw [← hvs]; exact vs_ok hP hno2 (fun h => by rw [← hpa, he] at h; cases h.1)⟩
          have hord : 0 < i → 0 ≤ cmpS (l.getD (i - 1) emp) s → vst l i = 62 := fun h1 h2 => by
            rw [← hvs]
            refine vs_order hP ⟨by omega, ?_⟩
            rcases vst_get hil with h | h
            · rw [h]; exact h2
            · omega
          have HO := Lib.hid hord
          have hic : i ≤ cap := by omega
          have hicI : (i : Int) ≤ (cap : Int) := by omega
          clear hIs hP hvs hs hrd hPV hpa hp2 hcn hHas hord
          have q1 := HK.out.c1
          have tail : Hid (∀ w2, Below wr.heap.size wr w2 → Cls w2 g nm (some ⟨b, o, none⟩) n cap ∧ RdS w2 (some ⟨b, o, none⟩) cap l) := fun w2 b2 => ⟨HK.out.below b2, HRD.out.below b2⟩
          by_cases hi0 : 0 < i
          · obtain ⟨k, hk⟩ : ∃ k, i = k + 1 := ⟨i - 1, by omega⟩
            obtain ⟨b', o', e', hcy⟩ := HRD.out.atS (i := k) (by omega)
            cases e'
            obtain ⟨y, hy⟩ : ∃ y, y = l.getD (i - 1) ByteArray.empty := ⟨_, rfl⟩
            rw [show k = i - 1 by omega, ← hy, show i - 1 = k by omega] at hcy
            have hys : y.size ≤ 1000 := HSZ.out y (by rw [hy]; have hx : i - 1 < l.length := (by omega); simp [List.getD, hx])
            have hCV := fun w => rCompare_v y s hys hss w
            obtain ⟨c, hcc⟩ : ∃ c, c = cmpS y s := ⟨_, rfl⟩
            rw [← hcc] at hCV
            have CV := Lib.hid hCV
            have hcy2 : cmpS (l.getD (i - 1) emp) s = c := by rw [hcc, hy]; rfl
            have e1 : (i : Int) - 1 = (k : Int) := by omega
            have hkn : k < n := by omega
            have hkI : (k : Int) < (n : Int) := by omega
            have hk2 : k ≤ 200 := by omega
            have HKK := Lib.hid hk
            have HCY := Lib.hid hcy
            by_cases h0 : 0 ≤ c
            · have HX := Lib.hid (HF.out 62 (HO.out hi0 (by rw [hcy2]; exact h0)) (by decide))
              clear hk hy hCV hcc hcy2 hcy
              go_wp2_with fail
              refine (IS.out _).mono ?_; rintro e w2 ⟨rfl, b2⟩
              have HB2 := Lib.hid (keep hBB.out b2)
              have hcy := cellB HCY.out b2
              have q2 := (tail.out _ b2).1.c1
              clear b2 hc q1
              go_wp2_with fail
              refine (CV.out _).mono ?_; rintro e w3 ⟨rfl, b3⟩
              have HB3 := Lib.hid (keep HB2.out b3)
              clear b3
              go_wp2_with fail
              go_ret
              exact ⟨ret_i64 HX.out, HB3.out⟩
            · have hL := last.out (fun h => h0 (by rw [← hcy2]; exact h.2))
              clear hk hy hCV hcc hcy2 hcy
              go_wp2_with fail
              refine (IS.out _).mono ?_; rintro e w2 ⟨rfl, b2⟩
              have HB2 := Lib.hid (keep hBB.out b2)
              have HBr2 := Lib.hid b2
              have hcy := cellB HCY.out b2
              have q2 := (tail.out _ b2).1.c1
              clear b2 hc q1
              go_wp2_with fail
              refine (CV.out _).mono ?_; rintro e w3 ⟨rfl, b3⟩
              have HB3 := Lib.hid (keep HB2.out b3)
              have HBr3 := Lib.hid (keep HBr2.out b3)
              clear b3 hcy q2
              go_wp2_with fail
              refine (PV.out _).mono ?_; rintro e w4 ⟨rfl, b4⟩
              have HB4 := Lib.hid (keep HB3.out b4)
              have HBr4 := Lib.hid (keep HBr3.out b4)
              have q4 := (tail.out _ HBr4.out).1.c1
              have HR4 := Lib.hid (tail.out _ HBr4.out).2
              have HW4 := Lib.hid (hbl.out.trans (HBr4.out.mono hbl.out.size))
              clear b4
              rcases hL with ⟨t1, t2⟩ | ⟨t1, t2, t3⟩ | ⟨t1, t2, t3⟩
              · have HP2 := Lib.hid (HG.out t2)
                clear t2
                go_wp2_with fail
                go_roundw
                case rel => exact ⟨i + 1, by omega, by go_num, HP2, HW4⟩
                case measure => simp [intOf]; omega
              · subst t2
                have HX := Lib.hid (HF.out 63 t3 (by decide))
                clear t3
                go_wp2_with fail
                refine (HS.out _ HR4.out).mono ?_; rintro e w5 ⟨rfl, rfl⟩
                go_wp2_with fail
                go_ret
                exact ⟨ret_i64 HX.out, HB4.out⟩
              · subst t2
                have HP2 := Lib.hid (HG.out t3)
                clear t3
                go_wp2_with fail
                refine (HS.out _ HR4.out).mono ?_; rintro e w5 ⟨rfl, rfl⟩
                go_wp2_with fail
                go_roundw
                case rel => exact ⟨i + 1, by omega, by go_num, HP2, HW4⟩
                case measure => simp [intOf]; omega
          · have hL := last.out (fun h => hi0 h.1)
            obtain rfl : i = 0 := by omega
            rw [Nat.add_zero] at hc
            go_wp2_with fail
            refine (IS.out _).mono ?_; rintro e w2 ⟨rfl, b2⟩
            have HB2 := Lib.hid (keep hBB.out b2)
            have HBr2 := Lib.hid b2
            clear b2 hc q1
            go_wp2_with fail
            refine (PV.out _).mono ?_; rintro e w4 ⟨rfl, b4⟩
            have HB4 := Lib.hid (keep HB2.out b4)
            have HBr4 := Lib.hid (keep HBr2.out b4)
            have q4 := (tail.out _ HBr4.out).1.c1
            have HR4 := Lib.hid (tail.out _ HBr4.out).2
            have HW4 := Lib.hid (hbl.out.trans (HBr4.out.mono hbl.out.size))
            clear b4
            rcases hL with ⟨t1, t2⟩ | ⟨t1, t2, t3⟩ | ⟨t1, t2, t3⟩
            · have HP2 := Lib.hid (HG.out t2)
              clear t2
              go_wp2_with fail
              go_roundw
              case rel => exact ⟨1, by omega, by go_num, HP2, HW4⟩
              case measure => simp [intOf]; omega
            · subst t2
              have HX := Lib.hid (HF.out 63 t3 (by decide))
              clear t3
              go_wp2_with fail
              refine (HS.out _ HR4.out).mono ?_; rintro e w5 ⟨rfl, rfl⟩
              go_wp2_with fail
              go_ret
              exact ⟨ret_i64 HX.out, HB4.out⟩
            · subst t2
              have HP2 := Lib.hid (HG.out t3)
              clear t3
              go_wp2_with fail
              refine (HS.out _ HR4.out).mono ?_; rintro e w5 ⟨rfl, rfl⟩
              go_wp2_with fail
              go_roundw
              case rel => exact ⟨1, by omega, by go_num, HP2, HW4⟩
              case measure => simp [intOf]; omega
      · obtain rfl : i = n := by omega
        have hlt2 : ¬ (i : Int) < (i : Int) := by omega
        have HX : Hid ((0 : Int) = val l) := (val_ok HC.out (fun j hj => hpre.out j (by have := HN.out; omega))).symm
        go_wp2_with fail
        go_ret
        exact ⟨ret_i64 HX.out, hBB.out⟩
end Go.Proofs.YtkodfmpaeemaiaaDoor.C6
