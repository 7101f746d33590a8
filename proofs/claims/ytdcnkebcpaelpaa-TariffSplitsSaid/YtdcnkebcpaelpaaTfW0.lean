import Derived.Test.YtdcnkebcpaelpaaTfQ0
import Derived.Test.YtdcnkebcpaelpaaTfG0
import Derived.Test.YtdcnkebcpaelpaaRatsC
import Derived.Test.YtdcnkebcpaelpaaTfX0
import Derived.Test.YtdcnkebcpaelpaaTfK0
/- Layer 14: uses: what they have to be; areUses of both sides; the sums of a mean bill. -/
namespace Go.Proofs.Ytdcnkebcpaelpaa.T14
open Go.RowKit Go.Sort C6

def goodu (us : List (Int × Int)) (i : Nat) : Prop := 0 ≤ up us i ∧ up us i ≤ 1099511627776 ∧ 1 ≤ prc us i ∧ prc us i ≤ 1099511627776
/-- the uses are as they have to be -/
structure OkU (us : List (Int × Int)) : Prop where
  pos : 1 ≤ us.length
  len : us.length ≤ 20
  good : ∀ i, i < us.length → goodu us i

set_option maxHeartbeats 8000000 in
set_option maxRecDepth 100000 in
theorem areUses_v (ao : Option Addr) (cap : Nat) (us : List (Int × Int)) (w : World) (h : RdK w ao cap us) (hl : us.length ≤ 100) :
    Calls Try.prog 24 #[.slice ao us.length cap] w (Says (OkU us) w) := by
  obtain ⟨n, hn⟩ : ∃ n, n = us.length := ⟨_, rfl⟩
  have a1 := h.1
  rw [← hn] at a1 hl ⊢
  have HN := Lib.hid hn
  have HR := Lib.hid h
  clear h hn
  by_cases h0 : n = 0
  · subst h0
    have no : Hid (¬ OkU us) := fun hh => by have := hh.pos; have := HN.out; omega
    go_enter Try.func24, Try.ntmps24
    go_wp2_with fail
    go_ret
    exact Says.no no.out (Below.refl _ _)
  · by_cases h8 : 20 < n
    · have d0 : ((n : Int) == 0) = false := beq_eq_false_iff_ne.2 (by omega)
      have d1 : decide ((20 : Int) < (n : Int)) = true := decide_eq_true (by omega)
      have no : Hid (¬ OkU us) := fun hh => by have := hh.len; have := HN.out; omega
      clear h0 h8
      go_enter Try.func24, Try.ntmps24
      go_wp2_with fail
      go_ret
      exact Says.no no.out (Below.refl _ _)
    · have d0 : ((n : Int) == 0) = false := beq_eq_false_iff_ne.2 (by omega)
      have d1 : decide ((20 : Int) < (n : Int)) = false := decide_eq_false (by omega)
      have HL : Hid (1 ≤ n ∧ n ≤ 20) := ⟨by omega, by omega⟩
      clear h0 h8
      go_enter Try.func24, Try.ntmps24
      go_wp2_with fail
      go_loopw [15] (fun s15 wr => ∃ i : Nat, i ≤ n ∧ s15 = .int .i64 (i : Int) ∧ Hid (∀ j, j < i → goodu us j) ∧ Hid (Below w.heap.size w wr)) (fun s15 _ => n - (intOf s15).toNat)
      case atStart => exact ⟨0, by omega, rfl, (show ∀ j, j < 0 → _ from fun j hj => by omega), Below.refl _ _⟩
      case round =>
        obtain ⟨i, hin, rfl, hgd, hbl⟩ := hrel
        by_cases hlt : i < n
        · have hlt2 : (i : Int) < (n : Int) := by omega
          obtain ⟨b, o, rfl, hc⟩ := (HR.out.below hbl.out).at (i := i) (by rw [← HN.out]; exact hlt)
          obtain ⟨c0, c1⟩ := hc i (by rw [← HN.out]; exact hlt)
          obtain ⟨u, hu⟩ : ∃ u, u = (us.getD i (0, 0)).1 := ⟨_, rfl⟩
          obtain ⟨p, hp⟩ : ∃ p, p = (us.getD i (0, 0)).2 := ⟨_, rfl⟩
          rw [← hu] at c0
          rw [← hp] at c1
          have HU : Hid (up us i = u) := hu.symm
          have HP : Hid (prc us i = p) := hp.symm
          have HI : Hid (i < us.length) := by unfold Hid; rw [← HN.out]; exact hlt
          obtain ⟨W, hW⟩ : ∃ W, W = wr.alloc (.cells #[.int .i64 u, .int .i64 p] 35) := ⟨_, rfl⟩
          have HB : Hid (Below w.heap.size w W) := by rw [hW]; exact hbl.out.alloc hbl.out.size _
          obtain ⟨B, hB⟩ : ∃ B, B = wr.heap.size := ⟨_, rfl⟩
          have KB : Hid (W.heap[B]? = some (.cells #[.int .i64 u, .int .i64 p] 35 (0, 0))) := by unfold Hid; rw [hW, hB]; exact heap_alloc_new _ _
          have k0 : W.cell? ⟨B, 0, none⟩ = some (.int .i64 u) := by simp [World.cell?, KB.out]
          obtain ⟨b1, hb1⟩ : ∃ b, b = isAm u := ⟨_, rfl⟩
          have HA : Hid (Calls Try.prog 43 #[.int .i64 u] W fun e w' => e = .returned (.bool b1) ∧ Below W.heap.size W w') := by rw [hb1]; exact isAmount_v u W
          have HAM : Hid ((b1 = true → 0 ≤ u ∧ u ≤ 1099511627776) ∧ (b1 = false → ¬ (0 ≤ u ∧ u ≤ 1099511627776))) := by
            rw [hb1]; unfold isAm
            exact ⟨fun h => by simpa using h, fun h => by simpa using h⟩
          clear hu hp hc hb1
          go_upto_region 6 with fail
          rw [← hW, ← hB]
          clear hW hB c0 c1
          cases b1 with
          | false =>
            go_wp2_with fail
            refine HA.out.mono ?_; rintro e w2 ⟨rfl, hB2⟩
            have HW2 : Hid (Below w.heap.size w w2) := HB.out.trans (hB2.mono HB.out.size)
            clear hB2
            go_wp2_with fail
            go_ret
            exact Says.no (fun hh => by have := hh.good i HI.out; unfold goodu at this; rw [HU.out] at this; exact HAM.out.2 (by trivial) ⟨this.1, this.2.1⟩) HW2.out
          | true =>
            go_wp2_with fail
            refine HA.out.mono ?_; rintro e w2 ⟨rfl, hB2⟩
            have HW2 : Hid (Below w.heap.size w w2) := HB.out.trans (hB2.mono HB.out.size)
            have kb := carry KB.out hB2
            have k1 : w2.cell? ⟨B, 1, none⟩ = some (.int .i64 p) := by simp [World.cell?, kb]
            clear hB2 kb k0
            by_cases h0 : p < 1
            · have d4 : decide (p < 1) = true := decide_eq_true h0
              clear h0
              go_wp2_with fail
              go_ret
              exact Says.no (fun hh => by have := (hh.good i HI.out).2.2.1; rw [HP.out] at this; have := of_decide_eq_true d4; omega) HW2.out
            · have d4 : decide (p < 1) = false := decide_eq_false h0
              by_cases h1 : 1099511627776 < p
              · have d5 : decide (1099511627776 < p) = true := decide_eq_true h1
                clear h0 h1
                go_wp2_with fail
                go_ret
                exact Says.no (fun hh => by have := (hh.good i HI.out).2.2.2; rw [HP.out] at this; have := of_decide_eq_true d5; omega) HW2.out
              · have d5 : decide (1099511627776 < p) = false := decide_eq_false h1
                have HG : Hid (goodu us i) := by
                  have := HAM.out.1 (by trivial)
                  unfold Hid goodu; rw [HU.out, HP.out]; omega
                clear h0 h1
                go_wp2_with fail
                go_roundw
                case rel => exact ⟨i + 1, by omega, by simp, (show ∀ j, j < i + 1 → _ from fun j hj => by
                  by_cases e : j = i
                  · rw [e]; exact HG.out
                  · exact hgd.out j (by omega)), HW2.out⟩
                case measure => simp [intOf]; omega
        · obtain rfl : i = n := by omega
          go_wp2_with fail
          go_ret
          exact Says.yes ⟨by have := HL.out; have := HN.out; omega, by have := HL.out; have := HN.out; omega, fun j hj => hgd.out j (by rw [HN.out]; exact hj)⟩ hbl.out

set_option maxHeartbeats 8000000 in
set_option maxRecDepth 100000 in
theorem ruses_v (ao : Option Addr) (cap : Nat) (us : List (Int × Int)) (w : World) (h : RdK w ao cap us) (hl : us.length ≤ 100) :
    Calls Try.prog 27 #[.slice ao us.length cap] w (Says (OkU us) w) := by
  obtain ⟨n, hn⟩ : ∃ n, n = us.length := ⟨_, rfl⟩
  have a1 := h.1
  rw [← hn] at a1 hl ⊢
  have HN := Lib.hid hn
  have HR := Lib.hid h
  clear h hn
  go_enter Try.func27, Try.ntmps27
  go_wp2_with fail
  go_loopw [7] (fun s7 wr => ∃ i : Nat, i ≤ n ∧ s7 = .int .i64 (i : Int) ∧ Hid (∀ j, j < i → goodu us j) ∧ Hid (Below w.heap.size w wr)) (fun s7 _ => n - (intOf s7).toNat)
  case atStart => exact ⟨0, by omega, rfl, (show ∀ j, j < 0 → _ from fun j hj => by omega), Below.refl _ _⟩
  case round =>
    obtain ⟨i, hin, rfl, hgd, hbl⟩ := hrel
    by_cases hlt : i < n
    · have hlt2 : (i : Int) < (n : Int) := by omega
      obtain ⟨b, o, rfl, hc⟩ := (HR.out.below hbl.out).at (i := i) (by rw [← HN.out]; exact hlt)
      obtain ⟨c0, c1⟩ := hc i (by rw [← HN.out]; exact hlt)
      obtain ⟨u, hu⟩ : ∃ u, u = (us.getD i (0, 0)).1 := ⟨_, rfl⟩
      obtain ⟨p, hp⟩ : ∃ p, p = (us.getD i (0, 0)).2 := ⟨_, rfl⟩
      rw [← hu] at c0
      rw [← hp] at c1
      have HU : Hid (up us i = u) := hu.symm
      have HP : Hid (prc us i = p) := hp.symm
      have HI : Hid (i < us.length) := by unfold Hid; rw [← HN.out]; exact hlt
      have HB : Hid (Below w.heap.size w (wr.alloc (.cells #[.int .i64 u, .int .i64 p] 35))) := hbl.out.alloc hbl.out.size _
      clear hu hp hc
      by_cases h0 : u < 0
      · have d0 : decide (u < 0) = true := decide_eq_true h0
        clear h0
        go_wp2_with fail
        go_ret
        exact Says.no (fun hh => by have := (hh.good i HI.out).1; rw [HU.out] at this; have := of_decide_eq_true d0; omega) HB.out
      · have d0 : decide (u < 0) = false := decide_eq_false h0
        by_cases h1 : 1099511627776 < u
        · have d1 : decide (1099511627776 < u) = true := decide_eq_true h1
          clear h0 h1
          go_wp2_with fail
          go_ret
          exact Says.no (fun hh => by have := (hh.good i HI.out).2.1; rw [HU.out] at this; have := of_decide_eq_true d1; omega) HB.out
        · have d1 : decide (1099511627776 < u) = false := decide_eq_false h1
          have HUG : Hid (0 ≤ u ∧ u ≤ 1099511627776) := ⟨by omega, by omega⟩
          clear h0 h1
          by_cases h0 : p < 1
          · have d2 : decide (p < 1) = true := decide_eq_true h0
            clear h0
            go_wp2_with fail
            go_ret
            exact Says.no (fun hh => by have := (hh.good i HI.out).2.2.1; rw [HP.out] at this; have := of_decide_eq_true d2; omega) HB.out
          · have d2 : decide (p < 1) = false := decide_eq_false h0
            by_cases h1 : 1099511627776 < p
            · have d3 : decide (1099511627776 < p) = true := decide_eq_true h1
              clear h0 h1
              go_wp2_with fail
              go_ret
              exact Says.no (fun hh => by have := (hh.good i HI.out).2.2.2; rw [HP.out] at this; have := of_decide_eq_true d3; omega) HB.out
            · have d3 : decide (1099511627776 < p) = false := decide_eq_false h1
              have HG : Hid (goodu us i) := by
                have := HUG.out
                unfold Hid goodu; rw [HU.out, HP.out]; omega
              clear h0 h1
              go_wp2_with fail
              go_roundw
              case rel => exact ⟨i + 1, by omega, by simp, (show ∀ j, j < i + 1 → _ from fun j hj => by
                by_cases e : j = i
                · rw [e]; exact HG.out
                · exact hgd.out j (by omega)), HB.out⟩
              case measure => simp [intOf]; omega
    · obtain rfl : i = n := by omega
      by_cases h1 : 1 ≤ i
      · have d1 : decide ((1 : Int) ≤ (i : Int)) = true := decide_eq_true (by omega)
        by_cases h2 : i ≤ 20
        · have d2 : decide ((i : Int) ≤ 20) = true := decide_eq_true (by omega)
          have ok : Hid (OkU us) := ⟨by have := HN.out; omega, by have := HN.out; omega, fun j hj => hgd.out j (by rw [HN.out]; exact hj)⟩
          clear h1 h2
          go_wp2_with fail
          go_ret
          exact Says.yes ok.out hbl.out
        · have d2 : decide ((i : Int) ≤ 20) = false := decide_eq_false (by omega)
          have no : Hid (¬ OkU us) := fun hh => by have := hh.len; have := HN.out; omega
          clear h1 h2
          go_wp2_with fail
          go_ret
          exact Says.no no.out hbl.out
      · have d1 : decide ((1 : Int) ≤ (i : Int)) = false := decide_eq_false (by omega)
        have no : Hid (¬ OkU us) := fun hh => by have := hh.pos; have := HN.out; omega
        clear h1
        go_wp2_with fail
        go_ret
        exact Says.no no.out hbl.out
end Go.Proofs.Ytdcnkebcpaelpaa.T14
/- Layer 14: tariff.average: the mean bill over uses. -/
namespace Go.Proofs.Ytdcnkebcpaelpaa.T14
open Go.RowKit Go.Sort C6

/-- the sum of the first bills, and of the first counts -/
def usum (st : Int) (bs us : List (Int × Int)) : Nat → Int
  | 0 => 0
  | i + 1 => usum st bs us i + prc us i * bil st bs (up us i)
def ucnt (us : List (Int × Int)) : Nat → Int
  | 0 => 0
  | i + 1 => ucnt us i + prc us i
theorem OkU.cnt_mag {us : List (Int × Int)} (h : OkU us) : ∀ i, i ≤ us.length → (i : Int) ≤ ucnt us i ∧ ucnt us i ≤ i * 1099511627776
  | 0, _ => ⟨Int.le_refl _, by simp [ucnt]⟩
  | i + 1, hi => by
    have ih := h.cnt_mag i (by omega)
    have := h.good i (by omega)
    unfold goodu at this
    show _ ≤ ucnt us i + prc us i ∧ ucnt us i + prc us i ≤ _
    omega
theorem use_mag {st : Int} {bs us : List (Int × Int)} (h : OkU us) (hv : tE st bs = 0) {i : Nat} (hi : i < us.length) : 0 ≤ bil st bs (up us i) ∧ bil st bs (up us i) ≤ 9671406556918132909277184 ∧ 0 ≤ prc us i * bil st bs (up us i) ∧ prc us i * bil st bs (up us i) ≤ 10633823966280535909050071111417462784 := by
  obtain ⟨h1, h2, h3⟩ := tE_ok hv
  obtain ⟨u0, u1, u2, u3⟩ := h.good i hi
  have hb := h3.bil_mag h1 h2 u0 u1
  refine ⟨hb.1, hb.2, Int.mul_nonneg (by omega) hb.1, ?_⟩
  have := Int.mul_le_mul u3 hb.2 hb.1 (by omega)
  exact Int.le_trans this (by decide)
theorem OkU.sum_mag {st : Int} {bs us : List (Int × Int)} (h : OkU us) (hv : tE st bs = 0) : ∀ i, i ≤ us.length → 0 ≤ usum st bs us i ∧ usum st bs us i ≤ i * 10633823966280535909050071111417462784
  | 0, _ => ⟨Int.le_refl _, by simp [usum]⟩
  | i + 1, hi => by
    have ih := h.sum_mag hv i (by omega)
    have := use_mag h hv (show i < us.length by omega)
    show 0 ≤ usum st bs us i + prc us i * bil st bs (up us i) ∧ usum st bs us i + prc us i * bil st bs (up us i) ≤ _
    omega

set_option maxHeartbeats 16000000 in
set_option maxRecDepth 100000 in
theorem average_loop (st : Int) (ao : Option Addr) (cap : Nat) (bs : List (Int × Int)) (uo : Option Addr) (uc : Nat) (us : List (Int × Int)) (w : World) (hv : tE st bs = 0) (hu : OkU us) (h : RdK w ao cap bs) (k : RdK w uo uc us) :
    Calls Try.prog 25 #[.agg #[.int .i64 st, .slice ao bs.length cap], .slice uo us.length uc] w (Mk ((usum st bs us us.length : Rat) / (ucnt us us.length : Rat)) 11 w) := by
  obtain ⟨n, hn⟩ : ∃ n, n = bs.length := ⟨_, rfl⟩
  obtain ⟨m, hm⟩ : ∃ n, n = us.length := ⟨_, rfl⟩
  have a1 := k.1
  have hm20 : m ≤ 20 := by have := hu.len; omega
  obtain ⟨W1, hW1⟩ : ∃ W, W = w.alloc (.cells #[.int .i64 st, .slice ao n cap] 24) := ⟨_, rfl⟩
  obtain ⟨W2, hW2⟩ : ∃ W, W = W1.alloc (.cells #[.bool false, .slice none 0 0, .slice none 0 0] 40) := ⟨_, rfl⟩
  obtain ⟨W3, hW3⟩ : ∃ W, W = W2.alloc (.cells #[.bool false, .slice none 0 0, .slice none 0 0] 40) := ⟨_, rfl⟩
  have s1 : W1.heap.size = w.heap.size + 1 := by rw [hW1]; simp
  have s2 : W2.heap.size = w.heap.size + 1 + 1 := by rw [hW2]; simp [s1]
  have s3 : W3.heap.size = w.heap.size + 1 + 1 + 1 := by rw [hW3]; simp [s2]
  have b1 : Below w.heap.size w W1 := by rw [hW1]; exact below_new w _
  have b2 : Below W1.heap.size W1 W2 := by rw [hW2]; exact below_new W1 _
  have b3 : Below W2.heap.size W2 W3 := by rw [hW3]; exact below_new W2 _
  have t1 : TfBox W1 w.heap.size st ao n cap := by rw [hW1]; exact TfBox.new w _ _ _ _
  have T3 : Hid (TfBox W3 w.heap.size st ao n cap) := carry (carry t1 b2) b3
  have r2 : W2.heap[w.heap.size + 1]? = some (.cells #[.bool false, .slice none 0 0, .slice none 0 0] 40 (0, 0)) := by rw [hW2, ← s1]; exact heap_alloc_new _ _
  have R3 : Hid (W3.heap[w.heap.size + 1]? = some (.cells #[.bool false, .slice none 0 0, .slice none 0 0] 40 (0, 0))) := carry r2 b3
  have G3 : Hid (W3.heap[w.heap.size + 1 + 1]? = some (.cells #[.bool false, .slice none 0 0, .slice none 0 0] 40 (0, 0))) := by unfold Hid; rw [hW3, ← s2]; exact heap_alloc_new _ _
  have HB3 : Hid (Below w.heap.size w W3) := (b1.trans (b2.mono b1.size)).trans (b3.mono (by omega))
  have BL : Hid (∀ (i : Nat) w', i < us.length → Below w.heap.size w w' → Calls Try.prog 39 #[.agg #[.int .i64 st, .slice ao n cap], .int .i64 (up us i)] w' (Mk ((bil st bs (up us i) : Int) : Rat) 5 w')) := fun i w' hi hb => by
    have h1 := hu.good i hi
    have := bill_z st ao cap bs (up us i) w' hv (h.below hb) h1.1 h1.2.1
    rwa [← hn] at this
  have HU : Hid (W3 = ((w.alloc (.cells #[.int .i64 st, .slice ao n cap] 24)).alloc (.cells #[.bool false, .slice none 0 0, .slice none 0 0] 40)).alloc (.cells #[.bool false, .slice none 0 0, .slice none 0 0] 40)) := by unfold Hid; rw [hW3, hW2, hW1]
  have RU := Lib.hid k
  have HOU := Lib.hid hu
  have HVV := Lib.hid hv
  have HM := Lib.hid hm
  obtain ⟨gt, hgt⟩ : ∃ g, g = w.heap.size := ⟨_, rfl⟩
  obtain ⟨g, hg⟩ : ∃ g, g = w.heap.size + 1 + 1 := ⟨_, rfl⟩
  have HGG := Lib.hid hg
  have HS3 : Hid (W3.heap.size = g + 1) := by unfold Hid; omega
  rw [← hg] at G3
  rw [← hn, ← hm]
  rw [← hm] at a1
  clear hn hm h k hu hv s1 s2 s3 b1 b2 b3 t1 r2 hW1 hW2 hW3 hgt hg
  go_enter Try.func25, Try.ntmps25
  go_upto_region 2 with fail
  rw [← HU.out]
  try rw [← HGG.out]
  clear HU
  go_wp2_with fail
  go_loopw [6, 14] (fun s6 s14 wr => ∃ i : Nat, i ≤ m ∧ s14 = .int .i64 (i : Int) ∧ s6 = .int .i64 (ucnt us i) ∧ Hid (BoxN wr g ((usum st bs us i : Int) : Rat) 5) ∧ Hid (Below g W3 wr)) (fun _ s14 _ => m - (intOf s14).toNat)
  case atStart => exact ⟨0, by omega, rfl, rfl, ⟨_, _, _, _, _, _, _, G3.out, cq_zero 0 W3 5 (by omega) (by omega)⟩, Below.refl _ _⟩
  case round =>
    obtain ⟨i, him, rfl, rfl, hbx, hbl⟩ := hrel
    by_cases hlt : i < m
    · have hlt2 : (i : Int) < (m : Int) := by omega
      have hi' : i < us.length := by rw [← HM.out]; exact hlt
      have HWR : Hid (Below w.heap.size w wr) := HB3.out.trans (hbl.out.mono (by have := HGG.out; omega))
      obtain ⟨b, o, rfl, hc⟩ := (RU.out.below HWR.out).at (i := i) hi'
      obtain ⟨c0, c1⟩ := hc i hi'
      obtain ⟨u, hu⟩ : ∃ u, u = up us i := ⟨_, rfl⟩
      obtain ⟨p, hp⟩ : ∃ p, p = prc us i := ⟨_, rfl⟩
      change wr.cell? ⟨b, o + i * 2, none⟩ = some (.int .i64 (up us i)) at c0
      change wr.cell? ⟨b, o + i * 2 + 1, none⟩ = some (.int .i64 (prc us i)) at c1
      obtain ⟨A, hA⟩ : ∃ A, A = usum st bs us i := ⟨_, rfl⟩
      obtain ⟨bl, hbl2⟩ : ∃ A, A = bil st bs u := ⟨_, rfl⟩
      obtain ⟨cc, hcc⟩ : ∃ A, A = ucnt us i := ⟨_, rfl⟩
      have BLI : Hid (∀ w', Below w.heap.size w w' → Calls Try.prog 39 #[.agg #[.int .i64 st, .slice ao n cap], .int .i64 u] w' (Mk ((bl : Int) : Rat) 5 w')) := fun w' hb => by
        rw [hbl2, hu]; exact BL.out i w' hi' hb
      have hum := use_mag (st := st) (bs := bs) HOU.out HVV.out hi'
      have hsm := HOU.out.sum_mag (st := st) (bs := bs) HVV.out i (by omega)
      have hcm := HOU.out.cnt_mag i (by omega)
      have hcm2 := HOU.out.cnt_mag (i + 1) (by omega)
      have hgu := HOU.out.good i hi'
      have HNX : Hid (usum st bs us (i + 1) = A + p * bl ∧ ucnt us (i + 1) = cc + p) := by rw [hA, hp, hbl2, hu, hcc]; exact ⟨rfl, rfl⟩
      unfold goodu at hgu
      rw [← hp] at hum c1 hgu
      rw [← hu] at hum c0 hgu
      rw [← hbl2] at hum
      rw [← hA] at hsm hbx
      rw [HNX.out.2] at hcm2
      rw [← hcc] at hcm ⊢
      have HPM : Hid (1 ≤ p ∧ p ≤ 1099511627776) := ⟨hgu.2.2.1, hgu.2.2.2⟩
      have HCP : Hid ((p * bl).natAbs < pw 5 ∧ (A + p * bl).natAbs < pw 5) := ⟨by rw [pw5]; omega, by rw [pw5]; omega⟩
      have hcb : -9223372036854775808 ≤ cc + p ∧ cc + p ≤ 9223372036854775807 := by omega
      have hwc : IntKind.i64.wrap (cc + p) = cc + p := wrap_mid (by omega) (by omega)
      obtain ⟨W, hW⟩ : ∃ W, W = wr.alloc (.cells #[.int .i64 u, .int .i64 p] 35) := ⟨_, rfl⟩
      obtain ⟨B, hB⟩ : ∃ B, B = wr.heap.size := ⟨_, rfl⟩
      have bW : Below wr.heap.size wr W := by rw [hW]; exact below_new wr _
      have KB : Hid (W.heap[B]? = some (.cells #[.int .i64 u, .int .i64 p] 35 (0, 0))) := by unfold Hid; rw [hW, hB]; exact heap_alloc_new _ _
      have HBX : Hid (BoxN W g ((A : Int) : Rat) 5) := hbx.out.below bW
      have HGW : Hid (g < wr.heap.size) := by have := hbl.out.size; have := HS3.out; unfold Hid; omega
      have HBL : Hid (Below g W3 W) := hbl.out.trans (bW.mono (by have := HGW.out; omega))
      have HTW : Hid (TfBox W w.heap.size st ao n cap) := (HBL.out.block w.heap.size (by have := HGG.out; omega)).trans T3.out
      have HWW : Hid (Below w.heap.size w W) := HWR.out.trans (bW.mono HWR.out.size)
      obtain ⟨s, a, nn, c, o2, m2, d, hbx1, hbq⟩ := HBX.out
      have XG : Hid (W.heap[g]? = some (.cells #[.bool s, .slice a nn c, .slice o2 m2 d] 40 (0, 0))) := hbx1
      have HQ2 : Hid (CQ 0 W s a nn c o2 m2 d ((A : Int) : Rat) 5) := hbq
      have kbw := KB.out
      have kw1 : W.cell? ⟨B, 1, none⟩ = some (.int .i64 p) := by simp [World.cell?, kbw]
      clear hu hp hA hbl2 hcc hum hsm hcm hcm2 hgu hbx hbl hc hbx1 hbq bW kbw
      go_upto_region 5 with fail
      rw [← hW, ← hB]
      clear hW hB c0 c1 kw1
      refine wp_region_any (by kernel_rfl) ?_
      refine region_ssa [18, 19, 20, 21, 22, 23, 24, 25, 26] (ExtT 40 g W) (ExtT 40 g) (LsP [kQ (((A : Int) : Rat)) (5), kV (.pointer (some ⟨B, 1, none⟩)), kV (.int .i64 p), kV (.agg #[.int .i64 st, .slice ao n cap]), kV (.pointer (some ⟨B, 0, none⟩)), kV (.int .i64 u), kQ (((bl : Int) : Rat)) (5), kQ (((p * bl : Int) : Rat)) (5), kQ (((A + p * bl : Int) : Rat)) (5), kAny]) (fun D f w1 => (D 9 = false → w1.heap[g]? = some (.cells #[.bool s, .slice a nn c, .slice o2 m2 d] 40 (0, 0))) ∧ (D 9 = true → HoldsT 40 w1 (.pointer (some ⟨g, 0, none⟩)) (f 26))) (fun f => rfl) (by kernel_rfl) (by kernel_rfl) ?_ ?_ ?_ ?_ (AllFrom.below (n := 10) ?_) ?_
      · exact ExtT.drewT (ExtT.refl 40 g _)
      · intro f; exact ⟨fun _ => XG.out, fun h => (by cases h)⟩
      · intro jx vx w1 w2 _ h hE; exact LsP.ext (StTL.all (l := [kQ (((A : Int) : Rat)) (5), kV (.pointer (some ⟨B, 1, none⟩)), kV (.int .i64 p), kV (.agg #[.int .i64 st, .slice ao n cap]), kV (.pointer (some ⟨B, 0, none⟩)), kV (.int .i64 u), kQ (((bl : Int) : Rat)) (5), kQ (((p * bl : Int) : Rat)) (5), kQ (((A + p * bl : Int) : Rat)) (5), kAny]) ⟨StT.q (by decide) _ _, StT.v _ _, StT.v _ _, StT.v _ _, StT.v _ _, StT.v _ _, StT.q (by decide) _ _, StT.q (by decide) _ _, StT.q (by decide) _ _, StT.any _, trivial⟩) jx vx w1 w2 h hE
      · intro w1 w2 hB hE; exact ExtT.trans hB hE
      · refine AllFrom.step (m := 9) (j := 1) rfl ?_ ?_
        · intro D f w1 hD hB hR hp hcl hX
          have hbx := hX.1 (eq_false_of_ne_true (no_of (D := D) (hcl 9) (by kernel_rfl) hD))
          have HBX := Lib.hid hbx
          have HEB := Lib.hid hB
          have hgs : g < w1.heap.size := (Array.getElem?_eq_some_iff.1 hbx).1
          obtain ⟨o0, o1, o3, z0, z1, z2⟩ := at_block HBX.out
          have kb : w1.heap[B]? = some (.cells #[.int .i64 u, .int .i64 p] 35 (0, 0)) := ExtT.other (by decide) HEB.out KB.out
          have j0 : w1.cell? ⟨B, 0, none⟩ = some (.int .i64 u) := by simp [World.cell?, kb]
          have j1 : w1.cell? ⟨B, 1, none⟩ = some (.int .i64 p) := by simp [World.cell?, kb]
          have tb : TfBox w1 w.heap.size st ao n cap := (HEB.out.1.block w.heap.size (by have := HGG.out; omega)).trans HTW.out
          obtain ⟨l0, l1⟩ := tb.cells
          clear kb tb
          have hnov := Lib.hid (no_of (D := D) (hcl 9) (by kernel_rfl) hD)
          clear hX hR hp hbx hB hcl
          refine wpOp_step rfl (fun K hK => ?_)
          simp only [putAll, Act.put, List.setIfInBounds_toArray, List.set_cons_succ, List.set_cons_zero]
          go_simp
          exact hK _ _ ⟨_, (by show _ = Act.put _ (some 18) _; simp only [putAll, Act.put, List.setIfInBounds_toArray, List.set_cons_succ, List.set_cons_zero, *]), ⟨_, _, _, _, _, _, _, rfl, CQ.extT (by decide) HQ2.out HEB.out⟩, ExtT.refl _ _ _, ⟨fun _ => HBX.out, fun h => absurd h hnov.out⟩⟩
        refine AllFrom.step (m := 8) (j := 2) rfl ?_ ?_
        · intro D f w1 hD hB hR hp hcl hX
          have hbx := hX.1 (eq_false_of_ne_true (no_of (D := D) (hcl 9) (by kernel_rfl) hD))
          have HBX := Lib.hid hbx
          have HEB := Lib.hid hB
          have hgs : g < w1.heap.size := (Array.getElem?_eq_some_iff.1 hbx).1
          have hnov := Lib.hid (no_of (D := D) (hcl 9) (by kernel_rfl) hD)
          clear hX hR hp hbx hB hcl
          refine wpOp_step rfl (fun K hK => ?_)
          simp only [putAll, Act.put, List.setIfInBounds_toArray, List.set_cons_succ, List.set_cons_zero]
          go_simp
          exact hK _ _ ⟨.pointer (some ⟨B, 1, none⟩), (by show _ = Act.put _ (some 19) _; simp only [putAll, Act.put, List.setIfInBounds_toArray, List.set_cons_succ, List.set_cons_zero, *]), rfl, ExtT.refl _ _ _, ⟨fun _ => HBX.out, fun h => absurd h hnov.out⟩⟩
        refine AllFrom.step (m := 7) (j := 3) rfl ?_ ?_
        · intro D f w1 hD hB hR hp hcl hX
          have hbx := hX.1 (eq_false_of_ne_true (no_of (D := D) (hcl 9) (by kernel_rfl) hD))
          have HBX := Lib.hid hbx
          have HEB := Lib.hid hB
          have hgs : g < w1.heap.size := (Array.getElem?_eq_some_iff.1 hbx).1
          have e1 : f 19 = .pointer (some ⟨B, 1, none⟩) := (hp_at hp 1 (by kernel_rfl)).2
          obtain ⟨o0, o1, o3, z0, z1, z2⟩ := at_block HBX.out
          have kb : w1.heap[B]? = some (.cells #[.int .i64 u, .int .i64 p] 35 (0, 0)) := ExtT.other (by decide) HEB.out KB.out
          have j0 : w1.cell? ⟨B, 0, none⟩ = some (.int .i64 u) := by simp [World.cell?, kb]
          have j1 : w1.cell? ⟨B, 1, none⟩ = some (.int .i64 p) := by simp [World.cell?, kb]
          have tb : TfBox w1 w.heap.size st ao n cap := (HEB.out.1.block w.heap.size (by have := HGG.out; omega)).trans HTW.out
          obtain ⟨l0, l1⟩ := tb.cells
          clear kb tb
          have hnov := Lib.hid (no_of (D := D) (hcl 9) (by kernel_rfl) hD)
          clear hX hR hp hbx hB hcl
          refine wpOp_step rfl (fun K hK => ?_)
          simp only [putAll, Act.put, List.setIfInBounds_toArray, List.set_cons_succ, List.set_cons_zero]
          go_simp
          exact hK _ _ ⟨.int .i64 p, (by show _ = Act.put _ (some 20) _; simp only [putAll, Act.put, List.setIfInBounds_toArray, List.set_cons_succ, List.set_cons_zero, *]), rfl, ExtT.refl _ _ _, ⟨fun _ => HBX.out, fun h => absurd h hnov.out⟩⟩
        refine AllFrom.step (m := 6) (j := 4) rfl ?_ ?_
        · intro D f w1 hD hB hR hp hcl hX
          have hbx := hX.1 (eq_false_of_ne_true (no_of (D := D) (hcl 9) (by kernel_rfl) hD))
          have HBX := Lib.hid hbx
          have HEB := Lib.hid hB
          have hgs : g < w1.heap.size := (Array.getElem?_eq_some_iff.1 hbx).1
          obtain ⟨o0, o1, o3, z0, z1, z2⟩ := at_block HBX.out
          have kb : w1.heap[B]? = some (.cells #[.int .i64 u, .int .i64 p] 35 (0, 0)) := ExtT.other (by decide) HEB.out KB.out
          have j0 : w1.cell? ⟨B, 0, none⟩ = some (.int .i64 u) := by simp [World.cell?, kb]
          have j1 : w1.cell? ⟨B, 1, none⟩ = some (.int .i64 p) := by simp [World.cell?, kb]
          have tb : TfBox w1 w.heap.size st ao n cap := (HEB.out.1.block w.heap.size (by have := HGG.out; omega)).trans HTW.out
          obtain ⟨l0, l1⟩ := tb.cells
          clear kb tb
          have hnov := Lib.hid (no_of (D := D) (hcl 9) (by kernel_rfl) hD)
          clear hX hR hp hbx hB hcl
          refine wpOp_step rfl (fun K hK => ?_)
          simp only [putAll, Act.put, List.setIfInBounds_toArray, List.set_cons_succ, List.set_cons_zero]
          go_simp
          exact hK _ _ ⟨.agg #[.int .i64 st, .slice ao n cap], (by show _ = Act.put _ (some 21) _; simp only [putAll, Act.put, List.setIfInBounds_toArray, List.set_cons_succ, List.set_cons_zero, *]), rfl, ExtT.refl _ _ _, ⟨fun _ => HBX.out, fun h => absurd h hnov.out⟩⟩
        refine AllFrom.step (m := 5) (j := 5) rfl ?_ ?_
        · intro D f w1 hD hB hR hp hcl hX
          have hbx := hX.1 (eq_false_of_ne_true (no_of (D := D) (hcl 9) (by kernel_rfl) hD))
          have HBX := Lib.hid hbx
          have HEB := Lib.hid hB
          have hgs : g < w1.heap.size := (Array.getElem?_eq_some_iff.1 hbx).1
          have hnov := Lib.hid (no_of (D := D) (hcl 9) (by kernel_rfl) hD)
          clear hX hR hp hbx hB hcl
          refine wpOp_step rfl (fun K hK => ?_)
          simp only [putAll, Act.put, List.setIfInBounds_toArray, List.set_cons_succ, List.set_cons_zero]
          go_simp
          exact hK _ _ ⟨.pointer (some ⟨B, 0, none⟩), (by show _ = Act.put _ (some 22) _; simp only [putAll, Act.put, List.setIfInBounds_toArray, List.set_cons_succ, List.set_cons_zero, *]), rfl, ExtT.refl _ _ _, ⟨fun _ => HBX.out, fun h => absurd h hnov.out⟩⟩
        refine AllFrom.step (m := 4) (j := 6) rfl ?_ ?_
        · intro D f w1 hD hB hR hp hcl hX
          have hbx := hX.1 (eq_false_of_ne_true (no_of (D := D) (hcl 9) (by kernel_rfl) hD))
          have HBX := Lib.hid hbx
          have HEB := Lib.hid hB
          have hgs : g < w1.heap.size := (Array.getElem?_eq_some_iff.1 hbx).1
          have e4 : f 22 = .pointer (some ⟨B, 0, none⟩) := (hp_at hp 4 (by kernel_rfl)).2
          obtain ⟨o0, o1, o3, z0, z1, z2⟩ := at_block HBX.out
          have kb : w1.heap[B]? = some (.cells #[.int .i64 u, .int .i64 p] 35 (0, 0)) := ExtT.other (by decide) HEB.out KB.out
          have j0 : w1.cell? ⟨B, 0, none⟩ = some (.int .i64 u) := by simp [World.cell?, kb]
          have j1 : w1.cell? ⟨B, 1, none⟩ = some (.int .i64 p) := by simp [World.cell?, kb]
          have tb : TfBox w1 w.heap.size st ao n cap := (HEB.out.1.block w.heap.size (by have := HGG.out; omega)).trans HTW.out
          obtain ⟨l0, l1⟩ := tb.cells
          clear kb tb
          have hnov := Lib.hid (no_of (D := D) (hcl 9) (by kernel_rfl) hD)
          clear hX hR hp hbx hB hcl
          refine wpOp_step rfl (fun K hK => ?_)
          simp only [putAll, Act.put, List.setIfInBounds_toArray, List.set_cons_succ, List.set_cons_zero]
          go_simp
          exact hK _ _ ⟨.int .i64 u, (by show _ = Act.put _ (some 23) _; simp only [putAll, Act.put, List.setIfInBounds_toArray, List.set_cons_succ, List.set_cons_zero, *]), rfl, ExtT.refl _ _ _, ⟨fun _ => HBX.out, fun h => absurd h hnov.out⟩⟩
        refine AllFrom.step (m := 3) (j := 7) rfl ?_ ?_
        · intro D f w1 hD hB hR hp hcl hX
          have hbx := hX.1 (eq_false_of_ne_true (no_of (D := D) (hcl 9) (by kernel_rfl) hD))
          have HBX := Lib.hid hbx
          have HEB := Lib.hid hB
          have hgs : g < w1.heap.size := (Array.getElem?_eq_some_iff.1 hbx).1
          have e3 : f 21 = .agg #[.int .i64 st, .slice ao n cap] := (hp_at hp 3 (by kernel_rfl)).2
          have e5 : f 23 = .int .i64 u := (hp_at hp 5 (by kernel_rfl)).2
          have hnov := Lib.hid (no_of (D := D) (hcl 9) (by kernel_rfl) hD)
          clear hX hR hp hbx hB hcl
          refine wpOp_step rfl (fun K hK => ?_)
          simp only [putAll, Act.put, List.setIfInBounds_toArray, List.set_cons_succ, List.set_cons_zero]
          go_simp
          refine (BLI.out _ (HWW.out.trans (HEB.out.1.mono (by have := HGG.out; omega)))).mono ?_
          rintro e w2 h9
          obtain ⟨v9, rfl, hq9, hb⟩ := h9
          replace hq9 := Lib.hid hq9
          go_simp
          exact hK _ _ ⟨v9, (by show _ = Act.put _ (some 24) _; simp only [putAll, Act.put, List.setIfInBounds_toArray, List.set_cons_succ, List.set_cons_zero, *]), hq9.out, ExtT.of_below hb (Nat.le_of_lt hgs), ⟨fun _ => carry HBX.out hb, fun h => absurd h hnov.out⟩⟩
        refine AllFrom.step (m := 2) (j := 8) rfl ?_ ?_
        · intro D f w1 hD hB hR hp hcl hX
          have hbx := hX.1 (eq_false_of_ne_true (no_of (D := D) (hcl 9) (by kernel_rfl) hD))
          have HBX := Lib.hid hbx
          have HEB := Lib.hid hB
          have hgs : g < w1.heap.size := (Array.getElem?_eq_some_iff.1 hbx).1
          have e2 : f 20 = .int .i64 p := (hp_at hp 2 (by kernel_rfl)).2
          have q6 : IsQ _ _ (f 24) w1 := (hp_at hp 6 (by kernel_rfl)).2
          obtain ⟨v6, e6⟩ : ∃ v, f 24 = v := ⟨_, rfl⟩
          rw [e6] at q6
          replace q6 := Lib.hid q6
          have hnov := Lib.hid (no_of (D := D) (hcl 9) (by kernel_rfl) hD)
          clear hX hR hp hbx hB hcl
          refine wpOp_step rfl (fun K hK => ?_)
          simp only [putAll, Act.put, List.setIfInBounds_toArray, List.set_cons_succ, List.set_cons_zero]
          go_simp
          refine (times_z p bl (by have := HPM.out; omega) (by have := HPM.out; omega) _ _ q6.out HCP.out.1).mono ?_
          rintro e w2 h9
          obtain ⟨v9, rfl, hq9, hb⟩ := h9
          replace hq9 := Lib.hid hq9
          go_simp
          exact hK _ _ ⟨v9, (by show _ = Act.put _ (some 25) _; simp only [putAll, Act.put, List.setIfInBounds_toArray, List.set_cons_succ, List.set_cons_zero, *]), hq9.out, ExtT.of_below hb (Nat.le_of_lt hgs), ⟨fun _ => carry HBX.out hb, fun h => absurd h hnov.out⟩⟩
        refine AllFrom.step (m := 1) (j := 9) rfl ?_ ?_
        · intro D f w1 hD hB hR hp hcl hX
          have hbx := hX.1 (eq_false_of_ne_true (no_of (D := D) (hcl 9) (by kernel_rfl) hD))
          have HBX := Lib.hid hbx
          have HEB := Lib.hid hB
          have hgs : g < w1.heap.size := (Array.getElem?_eq_some_iff.1 hbx).1
          have q0 : IsQ _ _ (f 18) w1 := (hp_at hp 0 (by kernel_rfl)).2
          obtain ⟨v0, e0⟩ : ∃ v, f 18 = v := ⟨_, rfl⟩
          rw [e0] at q0
          replace q0 := Lib.hid q0
          have q7 : IsQ _ _ (f 25) w1 := (hp_at hp 7 (by kernel_rfl)).2
          obtain ⟨v7, e7⟩ : ∃ v, f 25 = v := ⟨_, rfl⟩
          rw [e7] at q7
          replace q7 := Lib.hid q7
          have hnov := Lib.hid (no_of (D := D) (hcl 9) (by kernel_rfl) hD)
          clear hX hR hp hbx hB hcl
          refine wpOp_step rfl (fun K hK => ?_)
          simp only [putAll, Act.put, List.setIfInBounds_toArray, List.set_cons_succ, List.set_cons_zero]
          go_simp
          refine (add_z q0.out q7.out HCP.out.2).mono ?_
          rintro e w2 h9
          obtain ⟨v9, rfl, hq9, hb⟩ := h9
          replace hq9 := Lib.hid hq9
          go_simp
          exact hK _ _ ⟨v9, (by show _ = Act.put _ (some 26) _; simp only [putAll, Act.put, List.setIfInBounds_toArray, List.set_cons_succ, List.set_cons_zero, *]), hq9.out, ExtT.of_below hb (Nat.le_of_lt hgs), ⟨fun _ => carry HBX.out hb, fun h => absurd h hnov.out⟩⟩
        refine AllFrom.step (m := 0) (j := 10) rfl ?_ ?_
        · intro D f w1 hD hB hR hp hcl hX
          have hbx := hX.1 hD
          obtain ⟨s5, a5, n5, c5, o5, m5, d5, ev, hcq⟩ := (hp_at hp 8 (by kernel_rfl)).2
          replace ev : f 26 = _ := ev
          obtain ⟨o0, o1, o2, z0, z1, z2⟩ := at_block hbx
          have HBX : Hid (BoxT 40 w1 g) := ⟨_, _, _, hbx⟩
          clear hX hR hp hbx hcl
          refine wpOp_step rfl (fun K hK => ?_)
          simp only [putAll, Act.put, List.setIfInBounds_toArray, List.set_cons_succ, List.set_cons_zero]
          go_simp
          exact hK _ _ ⟨undef, (by show _ = Act.put _ (none) _; simp only [putAll, Act.put, List.setIfInBounds_toArray, List.set_cons_succ, List.set_cons_zero, *]), trivial, ExtT.set3 HBX.out (Nat.le_refl _) _ _ _, ⟨fun h => absurd (show true = false from h) (by decide), fun _ => by show HoldsT _ _ _ (f 26); rw [ev]; exact HoldsT.new HBX.out _ _ _⟩⟩
        exact AllFrom.nil
      · intro D f w1 hall hB hR hX
        have hbox : BoxN w1 g (((A + p * bl : Int) : Rat)) (5) := BoxN.of (hX.2 (hall 9 (by decide))) (show IsQ _ _ (f 26) w1 from hR 8 (by decide))
        simp only [putAll, Act.put, List.setIfInBounds_toArray, List.set_cons_succ, List.set_cons_zero]
        have kb : w1.heap[B]? = some (.cells #[.int .i64 u, .int .i64 p] 35 (0, 0)) := ExtT.other (by decide) hB KB.out
        have j1 : w1.cell? ⟨B, 1, none⟩ = some (.int .i64 p) := by simp [World.cell?, kb]
        have BOX2 : Hid (BoxN w1 g ((usum st bs us (i + 1) : Int) : Rat) 5) := by rw [HNX.out.1]; exact hbox
        have BL2 : Hid (Below g W3 w1) := HBL.out.trans hB.1
        clear hX hR hB hall hbox kb
        go_wp2_with fail
        go_roundw
        case rel => exact ⟨i + 1, by omega, by simp, by rw [HNX.out.2], BOX2.out, BL2.out⟩
        case measure => simp [intOf]; omega
    · obtain rfl : i = m := by omega
      obtain ⟨s, a, nn, c, o2, m2, d, hbx1, hbq⟩ := hbx.out
      have HQ2 : Hid (CQ 0 wr s a nn c o2 m2 d ((usum st bs us i : Int) : Rat) 5) := hbq
      have XG : Hid (wr.heap[g]? = some (.cells #[.bool s, .slice a nn c, .slice o2 m2 d] 40 (0, 0))) := hbx1
      have HGW : Hid (g < wr.heap.size) := (Array.getElem?_eq_some_iff.1 hbx1).1
      have RR : Hid (wr.heap[w.heap.size + 1]? = some (.cells #[.bool false, .slice none 0 0, .slice none 0 0] 40 (0, 0))) := (hbl.out.block _ (by have := HGG.out; omega)).trans R3.out
      have HWR : Hid (Below w.heap.size w wr) := HB3.out.trans (hbl.out.mono (by have := HGG.out; omega))
      have hcm := HOU.out.cnt_mag i (by have := HM.out; omega)
      obtain ⟨C, hC⟩ : ∃ C, C = ucnt us i := ⟨_, rfl⟩
      have FI : Hid (∀ w', Calls Try.prog 46 #[.int .i64 C] w' (Mk ((C : Int) : Rat) 5 w')) := fun w' => fromInt_z C (by omega) (by omega) w'
      have HV : Hid (((usum st bs us i : Int) : Rat) / ((ucnt us i : Int) : Rat) = ((usum st bs us i : Int) : Rat) / ((C : Int) : Rat)) := by unfold Hid; rw [hC]
      rw [← hC]
      clear hbx hbx1 hbq hbl hcm hC
      go_upto_region 8 with fail
      refine wp_region_held_drew (S := fun w' => Below wr.heap.size wr w') (by kernel_rfl) ((Below.refl _ _).drew) (fun hH => ?_)
      refine wpAnyH_take (i := 0) (v := (.agg #[.bool s, .slice a nn c, .slice o2 m2 d])) rfl (by kernel_rfl) (by kernel_rfl) (by kernel_rfl) (fun _ _ _ h => h) (Or.inl ⟨by kernel_rfl, ?_⟩) hH ?_
      · intro w1 hB
        have hx := (hB.block g HGW.out).trans XG.out
        obtain ⟨o0, o1, o3, z0, z1, z2⟩ := at_block hx
        go_simp
      change wpAnyH _ _ _ _ _ _ _ (Act.put _ (some 33) _) _
      try simp only [Act.put, List.setIfInBounds_toArray, List.set_cons_zero, List.set_cons_succ]
      refine wpAnyH_take (i := 1) (v := (.int .i64 C)) rfl (by kernel_rfl) (by kernel_rfl) (by kernel_rfl) (fun _ _ _ h => h) (Or.inl ⟨by kernel_rfl, ?_⟩) hH ?_
      · intro w1 hB
        go_simp
      change wpAnyH _ _ _ _ _ _ _ (Act.put _ (some 34) _) _
      try simp only [Act.put, List.setIfInBounds_toArray, List.set_cons_zero, List.set_cons_succ]
      refine wpAnyH_ready (rs := [2, 7]) (by kernel_rfl) (by simp) ?_
      refine AllReadyH.cons rfl (fun K hK => ?_) (AllReadyH.cons rfl (fun K hK => ?_) AllReadyH.nil)
      · go_simp
        refine (FI.out _).mono ?_
        rintro e V2 ⟨v, rfl, ⟨s2, a2, n2, c2, p2, m3, d2, rfl, q2⟩, v2⟩
        replace q2 := Lib.hid q2
        try go_simp
        refine hK.out _ _ (keepB v2 hH (Nat.le_refl _)) (fun hH2 => ?_)
        clear hK K
        try simp only [Act.put, List.setIfInBounds_toArray, List.set_cons_zero, List.set_cons_succ]
        refine wpAnyH_ready (rs := [3, 7]) (by kernel_rfl) (by simp) ?_
        refine AllReadyH.cons rfl (fun K hK => ?_) (AllReadyH.cons rfl (fun K hK => ?_) AllReadyH.nil)
        · go_simp
          refine (Quo_any _ _ _ _ _ _ _ _ _ _ _ _ _ _ 5 _ _ _ (HQ2.out.below hH2).rq q2.out.rq (by omega)).mono ?_
          rintro e V3 ⟨s3, a3, n3, c3, o3, m4, d3, er, rfl, q3, -, v3⟩
          replace q3 := Lib.hid q3
          try go_simp
          refine hK.out _ _ (keepB v3 hH2 (Nat.le_refl _)) (fun hH3 => ?_)
          clear hK K
          try simp only [Act.put, List.setIfInBounds_toArray, List.set_cons_zero, List.set_cons_succ]
          refine wpAnyH_take (i := 4) (v := (.tuple #[.agg #[.bool s3, .slice a3 n3 c3, .slice o3 m4 d3], .int .i64 er])) rfl (by kernel_rfl) (by kernel_rfl) (by kernel_rfl) (fun _ _ _ h => h) (Or.inl ⟨by kernel_rfl, ?_⟩) hH3 ?_
          · intro w1 hB
            go_simp
          change wpAnyH _ _ _ _ _ _ _ (Act.put _ (some 32) _) _
          try simp only [Act.put, List.setIfInBounds_toArray, List.set_cons_zero, List.set_cons_succ]
          refine wpAnyH_take (i := 5) (v := (.agg #[.bool s3, .slice a3 n3 c3, .slice o3 m4 d3])) rfl (by kernel_rfl) (by kernel_rfl) (by kernel_rfl) (fun _ _ _ h => h) (Or.inl ⟨by kernel_rfl, ?_⟩) hH3 ?_
          · intro w1 hB
            go_simp
          change wpAnyH _ _ _ _ _ _ _ (Act.put _ (some 37) _) _
          try simp only [Act.put, List.setIfInBounds_toArray, List.set_cons_zero, List.set_cons_succ]
          refine wpAnyH_take (i := 6) (v := (.int .i64 er)) rfl (by kernel_rfl) (by kernel_rfl) (by kernel_rfl) (fun _ _ _ h => h) (Or.inl ⟨by kernel_rfl, ?_⟩) hH3 ?_
          · intro w1 hB
            go_simp
          change wpAnyH _ _ _ _ _ _ _ (Act.put _ (some 38) _) _
          try simp only [Act.put, List.setIfInBounds_toArray, List.set_cons_zero, List.set_cons_succ]
          refine wpAnyH_ready (rs := [7]) (by kernel_rfl) (by simp) ?_
          refine AllReadyH.cons rfl (fun K hK => ?_) AllReadyH.nil
          go_simp
          have x9 : Hid ((V3.alloc (.cells #[.bool false, .slice none 0 0, .slice none 0 0] 40)).heap[V3.heap.size]? = some (.cells #[.bool false, .slice none 0 0, .slice none 0 0] 40 (0, 0))) := heap_alloc_new V3 (.cells #[.bool false, .slice none 0 0, .slice none 0 0] 40)
          obtain ⟨y0, y1, y2, z0, z1, z2⟩ := at_block x9.out
          try go_simp
          refine hK.out _ _ (Below.alloc hH3 (Below.size hH3) _) (fun hH7 => ?_)
          clear hK K
          try simp only [Act.put, List.setIfInBounds_toArray, List.set_cons_zero, List.set_cons_succ]
          refine wpAnyH_ready (rs := [8]) (by kernel_rfl) (by simp) ?_
          refine AllReadyH.cons rfl (fun K hK => ?_) AllReadyH.nil
          go_simp
          skip
          try go_simp
          refine hK.out _ _ (Below.alloc hH3 (Below.size hH3) _) (fun hH8 => ?_)
          clear hK K
          try simp only [Act.put, List.setIfInBounds_toArray, List.set_cons_zero, List.set_cons_succ]
          refine wpAnyH_take (i := 9) (v := (.int .i64 er)) rfl (by kernel_rfl) (by kernel_rfl) (by kernel_rfl) (fun _ _ _ h => h) (Or.inl ⟨by kernel_rfl, ?_⟩) hH8 ?_
          · intro w1 hB
            go_simp
          change wpAnyH _ _ _ _ _ _ _ (Act.put _ (some 10) _) _
          try simp only [Act.put, List.setIfInBounds_toArray, List.set_cons_zero, List.set_cons_succ]
          refine wpAnyH_done (by kernel_rfl) ?_ _
          have k8 : (V3.alloc (.cells #[.bool s3, .slice a3 n3 c3, .slice o3 m4 d3] 40)).heap[V3.heap.size]? = some (.cells #[.bool s3, .slice a3 n3 c3, .slice o3 m4 d3] 40 (0, 0)) := heap_alloc_new V3 (.cells #[.bool s3, .slice a3 n3 c3, .slice o3 m4 d3] 40)
          have q8 : CQ 0 (V3.alloc (.cells #[.bool s3, .slice a3 n3 c3, .slice o3 m4 d3] 40)) s3 a3 n3 c3 o3 m4 d3 (((usum st bs us i : Int) : Rat) / ((C : Int) : Rat)) 11 := (q3.out.mono (Nat.zero_le _)).below (below_new V3 (.cells #[.bool s3, .slice a3 n3 c3, .slice o3 m4 d3] 40))
          have h8 : Below wr.heap.size wr (V3.alloc (.cells #[.bool s3, .slice a3 n3 c3, .slice o3 m4 d3] 40)) := hH8
          have r8 : ((V3.alloc (.cells #[.bool s3, .slice a3 n3 c3, .slice o3 m4 d3] 40))).heap[w.heap.size + 1]? = some (.cells #[.bool false, .slice none 0 0, .slice none 0 0] 40 (0, 0)) := (h8.block (w.heap.size + 1) (by have := HGW.out; have := HGG.out; omega)).trans RR.out
          obtain ⟨W8, hW8⟩ : ∃ W, W = (V3.alloc (.cells #[.bool s3, .slice a3 n3 c3, .slice o3 m4 d3] 40)) := ⟨_, rfl⟩
          rw [← hW8] at k8 q8 h8 r8 ⊢
          clear hW8
          obtain ⟨l0, l1, l2, -, -, -⟩ := at_block k8
          obtain ⟨f0, f1, f2, e0, e1, e2⟩ := at_block r8
          have r9 := Lib.hid (set3_at r8 (.bool s3) (.slice a3 n3 c3) (.slice o3 m4 d3))
          have FIN : Hid (Mk (((usum st bs us i : Int) : Rat) / ((ucnt us i : Int) : Rat)) 11 w (.returned (.agg #[.bool s3, .slice a3 n3 c3, .slice o3 m4 d3])) (((W8.setCell ⟨w.heap.size + 1, 0, none⟩ (.bool s3)).setCell ⟨w.heap.size + 1, 1, none⟩ (.slice a3 n3 c3)).setCell ⟨w.heap.size + 1, 2, none⟩ (.slice o3 m4 d3))) := ⟨_, rfl, ⟨_, _, _, _, _, _, _, rfl, by rw [HV.out]; exact CQ.extT (by decide) q8 (ExtT.set3 (n := 0) ⟨_, _, _, r8⟩ (Nat.zero_le _) _ _ _)⟩, below3 (HWR.out.trans (h8.mono HWR.out.size)) (by omega) _ _ _⟩
          clear k8 q8 h8 r8
          go_wp2_with fail
          obtain ⟨o0, o1, o3', -, -, -⟩ := at_block r9.out
          refine bodyPost_ret (v := (.agg #[.bool s3, .slice a3 n3 c3, .slice o3 m4 d3])) (by simp [results, Try.results25, go_sem, o0, o1, o3']) rfl ?_
          exact FIN.out
        · go_simp
          skip
          try go_simp
          refine hK.out _ _ (Below.alloc hH2 (Below.size hH2) _) (fun hH7 => ?_)
          clear hK K
          try simp only [Act.put, List.setIfInBounds_toArray, List.set_cons_zero, List.set_cons_succ]
          refine wpAnyH_ready (rs := [3]) (by kernel_rfl) (by simp) ?_
          refine AllReadyH.cons rfl (fun K hK => ?_) AllReadyH.nil
          go_simp
          refine (Quo_any _ _ _ _ _ _ _ _ _ _ _ _ _ _ 5 _ _ _ (HQ2.out.below hH7).rq (q2.out.below (below_new V2 (.cells #[.bool false, .slice none 0 0, .slice none 0 0] 40))).rq (by omega)).mono ?_
          rintro e V3 ⟨s3, a3, n3, c3, o3, m4, d3, er, rfl, q3, -, v3⟩
          replace q3 := Lib.hid q3
          have x10 : Hid (V3.heap[V2.heap.size]? = some (.cells #[.bool false, .slice none 0 0, .slice none 0 0] 40 (0, 0))) := carry (heap_alloc_new V2 (.cells #[.bool false, .slice none 0 0, .slice none 0 0] 40)) v3
          obtain ⟨y0, y1, y2, z0, z1, z2⟩ := at_block x10.out
          try go_simp
          refine hK.out _ _ (keepB v3 hH7 (Nat.le_refl _)) (fun hH3 => ?_)
          clear hK K
          try simp only [Act.put, List.setIfInBounds_toArray, List.set_cons_zero, List.set_cons_succ]
          refine wpAnyH_take (i := 4) (v := (.tuple #[.agg #[.bool s3, .slice a3 n3 c3, .slice o3 m4 d3], .int .i64 er])) rfl (by kernel_rfl) (by kernel_rfl) (by kernel_rfl) (fun _ _ _ h => h) (Or.inl ⟨by kernel_rfl, ?_⟩) hH3 ?_
          · intro w1 hB
            go_simp
          change wpAnyH _ _ _ _ _ _ _ (Act.put _ (some 32) _) _
          try simp only [Act.put, List.setIfInBounds_toArray, List.set_cons_zero, List.set_cons_succ]
          refine wpAnyH_take (i := 5) (v := (.agg #[.bool s3, .slice a3 n3 c3, .slice o3 m4 d3])) rfl (by kernel_rfl) (by kernel_rfl) (by kernel_rfl) (fun _ _ _ h => h) (Or.inl ⟨by kernel_rfl, ?_⟩) hH3 ?_
          · intro w1 hB
            go_simp
          change wpAnyH _ _ _ _ _ _ _ (Act.put _ (some 37) _) _
          try simp only [Act.put, List.setIfInBounds_toArray, List.set_cons_zero, List.set_cons_succ]
          refine wpAnyH_take (i := 6) (v := (.int .i64 er)) rfl (by kernel_rfl) (by kernel_rfl) (by kernel_rfl) (fun _ _ _ h => h) (Or.inl ⟨by kernel_rfl, ?_⟩) hH3 ?_
          · intro w1 hB
            go_simp
          change wpAnyH _ _ _ _ _ _ _ (Act.put _ (some 38) _) _
          try simp only [Act.put, List.setIfInBounds_toArray, List.set_cons_zero, List.set_cons_succ]
          refine wpAnyH_ready (rs := [8]) (by kernel_rfl) (by simp) ?_
          refine AllReadyH.cons rfl (fun K hK => ?_) AllReadyH.nil
          go_simp
          skip
          try go_simp
          refine hK.out _ _ (below3 hH3 (Below.size hH2) _ _ _) (fun hH8 => ?_)
          clear hK K
          try simp only [Act.put, List.setIfInBounds_toArray, List.set_cons_zero, List.set_cons_succ]
          refine wpAnyH_take (i := 9) (v := (.int .i64 er)) rfl (by kernel_rfl) (by kernel_rfl) (by kernel_rfl) (fun _ _ _ h => h) (Or.inl ⟨by kernel_rfl, ?_⟩) hH8 ?_
          · intro w1 hB
            go_simp
          change wpAnyH _ _ _ _ _ _ _ (Act.put _ (some 10) _) _
          try simp only [Act.put, List.setIfInBounds_toArray, List.set_cons_zero, List.set_cons_succ]
          refine wpAnyH_done (by kernel_rfl) ?_ _
          have k8 := set3_at x10.out (.bool s3) (.slice a3 n3 c3) (.slice o3 m4 d3)
          have q8 : CQ 0 (((V3.setCell ⟨V2.heap.size, 0, none⟩ (.bool s3)).setCell ⟨V2.heap.size, 1, none⟩ (.slice a3 n3 c3)).setCell ⟨V2.heap.size, 2, none⟩ (.slice o3 m4 d3)) s3 a3 n3 c3 o3 m4 d3 (((usum st bs us i : Int) : Rat) / ((C : Int) : Rat)) 11 := CQ.extT (by decide) (q3.out.mono (Nat.zero_le _)) (ExtT.set3 (n := 0) ⟨_, _, _, x10.out⟩ (Nat.zero_le _) _ _ _)
          have h8 : Below wr.heap.size wr (((V3.setCell ⟨V2.heap.size, 0, none⟩ (.bool s3)).setCell ⟨V2.heap.size, 1, none⟩ (.slice a3 n3 c3)).setCell ⟨V2.heap.size, 2, none⟩ (.slice o3 m4 d3)) := hH8
          have r8 : ((((V3.setCell ⟨V2.heap.size, 0, none⟩ (.bool s3)).setCell ⟨V2.heap.size, 1, none⟩ (.slice a3 n3 c3)).setCell ⟨V2.heap.size, 2, none⟩ (.slice o3 m4 d3))).heap[w.heap.size + 1]? = some (.cells #[.bool false, .slice none 0 0, .slice none 0 0] 40 (0, 0)) := (h8.block (w.heap.size + 1) (by have := HGW.out; have := HGG.out; omega)).trans RR.out
          obtain ⟨W8, hW8⟩ : ∃ W, W = (((V3.setCell ⟨V2.heap.size, 0, none⟩ (.bool s3)).setCell ⟨V2.heap.size, 1, none⟩ (.slice a3 n3 c3)).setCell ⟨V2.heap.size, 2, none⟩ (.slice o3 m4 d3)) := ⟨_, rfl⟩
          rw [← hW8] at k8 q8 h8 r8 ⊢
          clear hW8
          obtain ⟨l0, l1, l2, -, -, -⟩ := at_block k8
          obtain ⟨f0, f1, f2, e0, e1, e2⟩ := at_block r8
          have r9 := Lib.hid (set3_at r8 (.bool s3) (.slice a3 n3 c3) (.slice o3 m4 d3))
          have FIN : Hid (Mk (((usum st bs us i : Int) : Rat) / ((ucnt us i : Int) : Rat)) 11 w (.returned (.agg #[.bool s3, .slice a3 n3 c3, .slice o3 m4 d3])) (((W8.setCell ⟨w.heap.size + 1, 0, none⟩ (.bool s3)).setCell ⟨w.heap.size + 1, 1, none⟩ (.slice a3 n3 c3)).setCell ⟨w.heap.size + 1, 2, none⟩ (.slice o3 m4 d3))) := ⟨_, rfl, ⟨_, _, _, _, _, _, _, rfl, by rw [HV.out]; exact CQ.extT (by decide) q8 (ExtT.set3 (n := 0) ⟨_, _, _, r8⟩ (Nat.zero_le _) _ _ _)⟩, below3 (HWR.out.trans (h8.mono HWR.out.size)) (by omega) _ _ _⟩
          clear k8 q8 h8 r8
          go_wp2_with fail
          obtain ⟨o0, o1, o3', -, -, -⟩ := at_block r9.out
          refine bodyPost_ret (v := (.agg #[.bool s3, .slice a3 n3 c3, .slice o3 m4 d3])) (by simp [results, Try.results25, go_sem, o0, o1, o3']) rfl ?_
          exact FIN.out
      · go_simp
        skip
        try go_simp
        refine hK.out _ _ (Below.alloc hH (Below.size hH) _) (fun hH7 => ?_)
        clear hK K
        try simp only [Act.put, List.setIfInBounds_toArray, List.set_cons_zero, List.set_cons_succ]
        refine wpAnyH_ready (rs := [2]) (by kernel_rfl) (by simp) ?_
        refine AllReadyH.cons rfl (fun K hK => ?_) AllReadyH.nil
        go_simp
        refine (FI.out _).mono ?_
        rintro e V2 ⟨v, rfl, ⟨s2, a2, n2, c2, p2, m3, d2, rfl, q2⟩, v2⟩
        replace q2 := Lib.hid q2
        have x9 : Hid (V2.heap[wr.heap.size]? = some (.cells #[.bool false, .slice none 0 0, .slice none 0 0] 40 (0, 0))) := carry (show (wr.alloc (.cells #[.bool false, .slice none 0 0, .slice none 0 0] 40)).drew.heap[wr.heap.size]? = some (.cells #[.bool false, .slice none 0 0, .slice none 0 0] 40 (0, 0)) from heap_alloc_new wr (.cells #[.bool false, .slice none 0 0, .slice none 0 0] 40)) v2
        try go_simp
        refine hK.out _ _ (keepB v2 hH7 (Nat.le_refl _)) (fun hH2 => ?_)
        clear hK K
        try simp only [Act.put, List.setIfInBounds_toArray, List.set_cons_zero, List.set_cons_succ]
        refine wpAnyH_ready (rs := [3]) (by kernel_rfl) (by simp) ?_
        refine AllReadyH.cons rfl (fun K hK => ?_) AllReadyH.nil
        go_simp
        refine (Quo_any _ _ _ _ _ _ _ _ _ _ _ _ _ _ 5 _ _ _ (HQ2.out.below hH2).rq q2.out.rq (by omega)).mono ?_
        rintro e V3 ⟨s3, a3, n3, c3, o3, m4, d3, er, rfl, q3, -, v3⟩
        replace q3 := Lib.hid q3
        have x10 : Hid (V3.heap[wr.heap.size]? = some (.cells #[.bool false, .slice none 0 0, .slice none 0 0] 40 (0, 0))) := carry x9.out v3
        obtain ⟨y0, y1, y2, z0, z1, z2⟩ := at_block x10.out
        try go_simp
        refine hK.out _ _ (keepB v3 hH2 (Nat.le_refl _)) (fun hH3 => ?_)
        clear hK K
        try simp only [Act.put, List.setIfInBounds_toArray, List.set_cons_zero, List.set_cons_succ]
        refine wpAnyH_take (i := 4) (v := (.tuple #[.agg #[.bool s3, .slice a3 n3 c3, .slice o3 m4 d3], .int .i64 er])) rfl (by kernel_rfl) (by kernel_rfl) (by kernel_rfl) (fun _ _ _ h => h) (Or.inl ⟨by kernel_rfl, ?_⟩) hH3 ?_
        · intro w1 hB
          go_simp
        change wpAnyH _ _ _ _ _ _ _ (Act.put _ (some 32) _) _
        try simp only [Act.put, List.setIfInBounds_toArray, List.set_cons_zero, List.set_cons_succ]
        refine wpAnyH_take (i := 5) (v := (.agg #[.bool s3, .slice a3 n3 c3, .slice o3 m4 d3])) rfl (by kernel_rfl) (by kernel_rfl) (by kernel_rfl) (fun _ _ _ h => h) (Or.inl ⟨by kernel_rfl, ?_⟩) hH3 ?_
        · intro w1 hB
          go_simp
        change wpAnyH _ _ _ _ _ _ _ (Act.put _ (some 37) _) _
        try simp only [Act.put, List.setIfInBounds_toArray, List.set_cons_zero, List.set_cons_succ]
        refine wpAnyH_take (i := 6) (v := (.int .i64 er)) rfl (by kernel_rfl) (by kernel_rfl) (by kernel_rfl) (fun _ _ _ h => h) (Or.inl ⟨by kernel_rfl, ?_⟩) hH3 ?_
        · intro w1 hB
          go_simp
        change wpAnyH _ _ _ _ _ _ _ (Act.put _ (some 38) _) _
        try simp only [Act.put, List.setIfInBounds_toArray, List.set_cons_zero, List.set_cons_succ]
        refine wpAnyH_ready (rs := [8]) (by kernel_rfl) (by simp) ?_
        refine AllReadyH.cons rfl (fun K hK => ?_) AllReadyH.nil
        go_simp
        skip
        try go_simp
        refine hK.out _ _ (below3 hH3 (Nat.le_refl _) _ _ _) (fun hH8 => ?_)
        clear hK K
        try simp only [Act.put, List.setIfInBounds_toArray, List.set_cons_zero, List.set_cons_succ]
        refine wpAnyH_take (i := 9) (v := (.int .i64 er)) rfl (by kernel_rfl) (by kernel_rfl) (by kernel_rfl) (fun _ _ _ h => h) (Or.inl ⟨by kernel_rfl, ?_⟩) hH8 ?_
        · intro w1 hB
          go_simp
        change wpAnyH _ _ _ _ _ _ _ (Act.put _ (some 10) _) _
        try simp only [Act.put, List.setIfInBounds_toArray, List.set_cons_zero, List.set_cons_succ]
        refine wpAnyH_done (by kernel_rfl) ?_ _
        have k8 := set3_at x10.out (.bool s3) (.slice a3 n3 c3) (.slice o3 m4 d3)
        have q8 : CQ 0 (((V3.setCell ⟨wr.heap.size, 0, none⟩ (.bool s3)).setCell ⟨wr.heap.size, 1, none⟩ (.slice a3 n3 c3)).setCell ⟨wr.heap.size, 2, none⟩ (.slice o3 m4 d3)) s3 a3 n3 c3 o3 m4 d3 (((usum st bs us i : Int) : Rat) / ((C : Int) : Rat)) 11 := CQ.extT (by decide) (q3.out.mono (Nat.zero_le _)) (ExtT.set3 (n := 0) ⟨_, _, _, x10.out⟩ (Nat.zero_le _) _ _ _)
        have h8 : Below wr.heap.size wr (((V3.setCell ⟨wr.heap.size, 0, none⟩ (.bool s3)).setCell ⟨wr.heap.size, 1, none⟩ (.slice a3 n3 c3)).setCell ⟨wr.heap.size, 2, none⟩ (.slice o3 m4 d3)) := hH8
        have r8 : ((((V3.setCell ⟨wr.heap.size, 0, none⟩ (.bool s3)).setCell ⟨wr.heap.size, 1, none⟩ (.slice a3 n3 c3)).setCell ⟨wr.heap.size, 2, none⟩ (.slice o3 m4 d3))).heap[w.heap.size + 1]? = some (.cells #[.bool false, .slice none 0 0, .slice none 0 0] 40 (0, 0)) := (h8.block (w.heap.size + 1) (by have := HGW.out; have := HGG.out; omega)).trans RR.out
        obtain ⟨W8, hW8⟩ : ∃ W, W = (((V3.setCell ⟨wr.heap.size, 0, none⟩ (.bool s3)).setCell ⟨wr.heap.size, 1, none⟩ (.slice a3 n3 c3)).setCell ⟨wr.heap.size, 2, none⟩ (.slice o3 m4 d3)) := ⟨_, rfl⟩
        rw [← hW8] at k8 q8 h8 r8 ⊢
        clear hW8
        obtain ⟨l0, l1, l2, -, -, -⟩ := at_block k8
        obtain ⟨f0, f1, f2, e0, e1, e2⟩ := at_block r8
        have r9 := Lib.hid (set3_at r8 (.bool s3) (.slice a3 n3 c3) (.slice o3 m4 d3))
        have FIN : Hid (Mk (((usum st bs us i : Int) : Rat) / ((ucnt us i : Int) : Rat)) 11 w (.returned (.agg #[.bool s3, .slice a3 n3 c3, .slice o3 m4 d3])) (((W8.setCell ⟨w.heap.size + 1, 0, none⟩ (.bool s3)).setCell ⟨w.heap.size + 1, 1, none⟩ (.slice a3 n3 c3)).setCell ⟨w.heap.size + 1, 2, none⟩ (.slice o3 m4 d3))) := ⟨_, rfl, ⟨_, _, _, _, _, _, _, rfl, by rw [HV.out]; exact CQ.extT (by decide) q8 (ExtT.set3 (n := 0) ⟨_, _, _, r8⟩ (Nat.zero_le _) _ _ _)⟩, below3 (HWR.out.trans (h8.mono HWR.out.size)) (by omega) _ _ _⟩
        clear k8 q8 h8 r8
        go_wp2_with fail
        obtain ⟨o0, o1, o3', -, -, -⟩ := at_block r9.out
        refine bodyPost_ret (v := (.agg #[.bool s3, .slice a3 n3 c3, .slice o3 m4 d3])) (by simp [results, Try.results25, go_sem, o0, o1, o3']) rfl ?_
        exact FIN.out
end Go.Proofs.Ytdcnkebcpaelpaa.T14
/- Layer 14: tariff.Average. -/
namespace Go.Proofs.Ytdcnkebcpaelpaa.T14
open Go.RowKit Go.Sort C6

open Classical in
/-- the first error of a tariff and uses; the mean bill with it -/
noncomputable def uE (st : Int) (bs us : List (Int × Int)) : Int := if tE st bs ≠ 0 then tE st bs else if OkU us then 0 else 143
noncomputable def avgR (st : Int) (bs us : List (Int × Int)) : Rat := (usum st bs us us.length : Rat) / (ucnt us us.length : Rat)
noncomputable def avgQ (st : Int) (bs us : List (Int × Int)) : Rat := if uE st bs us = 0 then avgR st bs us else 0
theorem uE_t {st : Int} {bs us : List (Int × Int)} (h : tE st bs ≠ 0) : uE st bs us = tE st bs := by unfold uE; rw [if_pos h]
theorem uE_u {st : Int} {bs us : List (Int × Int)} (h : tE st bs = 0) (hu : ¬ OkU us) : uE st bs us = 143 := by unfold uE; rw [if_neg (fun h2 => h2 h), if_neg hu]
theorem uE_ok {st : Int} {bs us : List (Int × Int)} (h : tE st bs = 0) (hu : OkU us) : uE st bs us = 0 := by unfold uE; rw [if_neg (fun h2 => h2 h), if_pos hu]

set_option maxHeartbeats 8000000 in
set_option maxRecDepth 100000 in
theorem Average_v (st : Int) (ao : Option Addr) (cap : Nat) (bs : List (Int × Int)) (uo : Option Addr) (uc : Nat) (us : List (Int × Int)) (w : World) (h : RdK w ao cap bs) (k : RdK w uo uc us) (hl : bs.length ≤ 100) (kl : us.length ≤ 100) :
    Calls Try.prog 10 #[.agg #[.int .i64 st, .slice ao bs.length cap], .slice uo us.length uc] w (MkE (uE st bs us) (avgQ st bs us) 11 w) := by
  obtain ⟨n, hn⟩ : ∃ n, n = bs.length := ⟨_, rfl⟩
  obtain ⟨m, hm⟩ : ∃ n, n = us.length := ⟨_, rfl⟩
  rw [← hn, ← hm]
  obtain ⟨W1, hW1⟩ : ∃ W, W = w.alloc (.cells #[.int .i64 st, .slice ao n cap] 24) := ⟨_, rfl⟩
  obtain ⟨W2, hW2⟩ : ∃ W, W = W1.alloc (.cells #[.bool false, .slice none 0 0, .slice none 0 0] 40) := ⟨_, rfl⟩
  have s1 : W1.heap.size = w.heap.size + 1 := by rw [hW1]; simp
  have b1 : Below w.heap.size w W1 := by rw [hW1]; exact below_new w _
  have b2 : Below W1.heap.size W1 W2 := by rw [hW2]; exact below_new W1 _
  have t1 : TfBox W1 w.heap.size st ao n cap := by rw [hW1]; exact TfBox.new w _ _ _ _
  have T2 : Hid (TfBox W2 w.heap.size st ao n cap) := carry t1 b2
  have R2 : Hid (W2.heap[w.heap.size + 1]? = some (.cells #[.bool false, .slice none 0 0, .slice none 0 0] 40 (0, 0))) := by unfold Hid; rw [hW2, ← s1]; exact heap_alloc_new _ _
  have HB2 : Hid (Below w.heap.size w W2) := b1.trans (b2.mono b1.size)
  have HC : Hid (∀ w', Below w.heap.size w w' → Calls Try.prog 23 #[.agg #[.int .i64 st, .slice ao n cap]] w' (ErrIs (tE st bs) w')) := fun w' hb => by
    have := Validate_v st ao cap bs w' (h.below hb) hl
    rwa [← hn] at this
  have HA : Hid (∀ w', Below w.heap.size w w' → Calls Try.prog 24 #[.slice uo m uc] w' (Says (OkU us) w')) := fun w' hb => by
    have := areUses_v uo uc us w' (k.below hb) kl
    rwa [← hm] at this
  have HL : Hid (tE st bs = 0 → OkU us → ∀ w', Below w.heap.size w w' → Calls Try.prog 25 #[.agg #[.int .i64 st, .slice ao n cap], .slice uo m uc] w' (Mk (avgR st bs us) 11 w')) := fun he hu w' hb => by
    rw [hn, hm]
    exact average_loop st ao cap bs uo uc us w' he hu (h.below hb) (k.below hb)
  have HE1 : Hid (tE st bs ≠ 0 → uE st bs us = tE st bs) := uE_t
  have HE2 : Hid (tE st bs = 0 → ¬ OkU us → uE st bs us = 143) := uE_u
  have HE3 : Hid (tE st bs = 0 → OkU us → uE st bs us = 0) := uE_ok
  have HQ1 : Hid (uE st bs us = 0 → avgQ st bs us = avgR st bs us) := fun h => if_pos h
  have HQ0 : Hid (uE st bs us ≠ 0 → avgQ st bs us = 0) := fun h => if_neg h
  obtain ⟨er, her⟩ : ∃ er, er = tE st bs := ⟨_, rfl⟩
  rw [← her] at HC HL HE1 HE2 HE3
  have S2 : Hid (w.heap.size + 1 < W2.heap.size) := (Array.getElem?_eq_some_iff.1 R2.out).1
  have HU : Hid (W2 = (w.alloc (.cells #[.int .i64 st, .slice ao n cap] 24)).alloc (.cells #[.bool false, .slice none 0 0, .slice none 0 0] 40)) := by unfold Hid; rw [hW2, hW1]
  obtain ⟨u0, u1⟩ := T2.out.cells
  clear h k hn hm hl kl her s1 b1 b2 t1 hW1 hW2
  have rest : ∀ w2, Below W2.heap.size W2 w2 → Hid (w2.heap[w.heap.size + 1]? = some (.cells #[.bool false, .slice none 0 0, .slice none 0 0] 40 (0, 0)) ∧ TfBox w2 w.heap.size st ao n cap ∧ Below w.heap.size w w2) := fun w2 hb => ⟨carry R2.out hb, carry T2.out hb, HB2.out.trans (hb.mono HB2.out.size)⟩
  have REST := Lib.hid rest
  clear rest
  by_cases h0 : er = 0
  · subst h0
    have d0 : ((0 : Int) != 0) = false := rfl
    go_enter Try.func10, Try.ntmps10
    go_wp2_with fail
    rw [← HU.out]
    refine (HC.out _ HB2.out).mono ?_; rintro e w2 ⟨rfl, hB2⟩
    have K2 := REST.out w2 hB2
    have HB22 := Lib.hid hB2
    clear hB2 u0 u1
    go_wp2_with fail
    refine (HA.out _ K2.out.2.2).mono ?_; rintro e w3 ⟨b3, rfl, hb3, hB3⟩
    have hB23 : Below W2.heap.size W2 w3 := keepB hB3 HB22.out (Nat.le_refl _)
    have K3 := REST.out w3 hB23
    have HB33 := Lib.hid hb3
    clear hB3 hB23 hb3 K2
    cases b3 with
    | false =>
      have hno : ¬ OkU us := fun hh => by have := HB33.out.2 hh; cases this
      have he := HE2.out (by trivial) hno
      have hz := Lib.hid (HQ0.out (by rw [he]; decide))
      have HEE := Lib.hid he
      obtain ⟨p0, p1, p2, z0, z1, z2⟩ := at_block K3.out.1
      have R4 := Lib.hid (set3_at K3.out.1 (.bool false) (.slice none 0 0) (.slice none 0 0))
      clear he hno
      go_wp2_with fail
      obtain ⟨o0, o1, o2, -, -, -⟩ := at_block R4.out
      refine bodyPost_ret (v := .tuple #[.agg #[.bool false, .slice none 0 0, .slice none 0 0], .int .i64 143]) (by simp [results, Try.results10, go_sem, o0, o1, o2]) rfl ?_
      exact ⟨_, by rw [HEE.out], by rw [hz.out]; exact isq_zero _ 11 (by omega) (by omega), below3 K3.out.2.2 (by omega) _ _ _⟩
    | true =>
      have hok : OkU us := HB33.out.1 (by trivial)
      have he := HE3.out (by trivial) hok
      have hz := Lib.hid (HQ1.out he)
      have HEE := Lib.hid he
      have AV := Lib.hid (HL.out (by trivial) hok)
      obtain ⟨u0, u1⟩ := K3.out.2.1.cells
      clear he hok
      go_wp2_with fail
      refine (AV.out _ K3.out.2.2).mono ?_; rintro e w4 ⟨v4, rfl, ⟨s, a, nn, c, o, m4, d, rfl, q4⟩, b4⟩
      have r4 := carry K3.out.1 b4
      have FIN : Hid (MkE 0 (avgQ st bs us) 11 w (.returned (.tuple #[.agg #[.bool s, .slice a nn c, .slice o m4 d], .int .i64 0])) (((w4.setCell ⟨w.heap.size + 1, 0, none⟩ (.bool s)).setCell ⟨w.heap.size + 1, 1, none⟩ (.slice a nn c)).setCell ⟨w.heap.size + 1, 2, none⟩ (.slice o m4 d))) := by
        rw [hz.out]
        exact ⟨_, rfl, ⟨_, _, _, _, _, _, _, rfl, CQ.extT (by decide) q4 (ExtT.set3 (n := 0) ⟨_, _, _, r4⟩ (Nat.zero_le _) _ _ _)⟩, below3 (K3.out.2.2.trans (b4.mono K3.out.2.2.size)) (by omega) _ _ _⟩
      have R4 := Lib.hid (set3_at r4 (.bool s) (.slice a nn c) (.slice o m4 d))
      obtain ⟨p0, p1, p2, z0, z1, z2⟩ := at_block r4
      clear r4 q4 b4 u0 u1
      go_wp2_with fail
      obtain ⟨o0, o1, o2, -, -, -⟩ := at_block R4.out
      refine bodyPost_ret (v := .tuple #[.agg #[.bool s, .slice a nn c, .slice o m4 d], .int .i64 0]) (by simp [results, Try.results10, go_sem, o0, o1, o2]) rfl ?_
      rw [HEE.out]
      exact FIN.out
  · have d0 : (er != 0) = true := bne_iff_ne.2 h0
    have he := HE1.out h0
    have hz := Lib.hid (HQ0.out (by rw [he]; exact h0))
    have HEE := Lib.hid he
    clear h0 he
    go_enter Try.func10, Try.ntmps10
    go_wp2_with fail
    rw [← HU.out]
    refine (HC.out _ HB2.out).mono ?_; rintro e w2 ⟨rfl, hB2⟩
    have K2 := REST.out w2 hB2
    clear hB2 u0 u1
    obtain ⟨p0, p1, p2, z0, z1, z2⟩ := at_block K2.out.1
    have R4 := Lib.hid (set3_at K2.out.1 (.bool false) (.slice none 0 0) (.slice none 0 0))
    go_wp2_with fail
    obtain ⟨o0, o1, o2, -, -, -⟩ := at_block R4.out
    refine bodyPost_ret (v := .tuple #[.agg #[.bool false, .slice none 0 0, .slice none 0 0], .int .i64 er]) (by simp [results, Try.results10, go_sem, o0, o1, o2]) rfl ?_
    exact ⟨_, by rw [HEE.out], by rw [hz.out]; exact isq_zero _ 11 (by omega) (by omega), below3 K2.out.2.2 (by omega) _ _ _⟩
end Go.Proofs.Ytdcnkebcpaelpaa.T14
/- Layer 14: tariff.Index. -/
namespace Go.Proofs.Ytdcnkebcpaelpaa.T14
open Go.RowKit Go.Sort C6

/-- the first error of two tariffs and uses, of which the second is current -/
noncomputable def iE (st : Int) (bs : List (Int × Int)) (su : Int) (cs us : List (Int × Int)) : Int := if tE st bs ≠ 0 then tE st bs else if uE su cs us ≠ 0 then uE su cs us else if avgR st bs us = 0 then 144 else 0
noncomputable def ixQ (st : Int) (bs : List (Int × Int)) (su : Int) (cs us : List (Int × Int)) : Rat := if iE st bs su cs us = 0 then avgR su cs us / avgR st bs us else 0
theorem iE_t {st su : Int} {bs cs us : List (Int × Int)} (h : tE st bs ≠ 0) : iE st bs su cs us = tE st bs := by unfold iE; rw [if_pos h]
theorem iE_u {st su : Int} {bs cs us : List (Int × Int)} (h : tE st bs = 0) (h2 : uE su cs us ≠ 0) : iE st bs su cs us = uE su cs us := by unfold iE; rw [if_neg (fun h3 => h3 h), if_pos h2]
theorem iE_z {st su : Int} {bs cs us : List (Int × Int)} (h : tE st bs = 0) (h2 : uE su cs us = 0) (h3 : avgR st bs us = 0) : iE st bs su cs us = 144 := by unfold iE; rw [if_neg (fun h4 => h4 h), if_neg (fun h4 => h4 h2), if_pos h3]
theorem iE_ok {st su : Int} {bs cs us : List (Int × Int)} (h : tE st bs = 0) (h2 : uE su cs us = 0) (h3 : avgR st bs us ≠ 0) : iE st bs su cs us = 0 := by unfold iE; rw [if_neg (fun h4 => h4 h), if_neg (fun h4 => h4 h2), if_neg h3]
theorem uE_uses {su : Int} {cs us : List (Int × Int)} (h : uE su cs us = 0) : OkU us := by
  unfold uE at h
  split at h
  · contradiction
  · split at h
    · assumption
    · cases h

set_option maxHeartbeats 16000000 in
set_option maxRecDepth 100000 in
theorem Index_v (st : Int) (ao : Option Addr) (cap : Nat) (bs : List (Int × Int)) (su : Int) (bo : Option Addr) (dap : Nat) (cs : List (Int × Int)) (uo : Option Addr) (uc : Nat) (us : List (Int × Int)) (w : World) (h : RdK w ao cap bs) (h2 : RdK w bo dap cs) (k : RdK w uo uc us) (hl : bs.length ≤ 100) (hl2 : cs.length ≤ 100) (kl : us.length ≤ 100) :
    Calls Try.prog 12 #[.agg #[.int .i64 st, .slice ao bs.length cap], .agg #[.int .i64 su, .slice bo cs.length dap], .slice uo us.length uc] w (MkE (iE st bs su cs us) (ixQ st bs su cs us) 23 w) := by
  obtain ⟨n, hn⟩ : ∃ n, n = bs.length := ⟨_, rfl⟩
  obtain ⟨n2, hn2⟩ : ∃ n, n = cs.length := ⟨_, rfl⟩
  obtain ⟨m, hm⟩ : ∃ n, n = us.length := ⟨_, rfl⟩
  rw [← hn, ← hn2, ← hm]
  obtain ⟨W1, hW1⟩ : ∃ W, W = w.alloc (.cells #[.int .i64 st, .slice ao n cap] 24) := ⟨_, rfl⟩
  obtain ⟨W2, hW2⟩ : ∃ W, W = W1.alloc (.cells #[.int .i64 su, .slice bo n2 dap] 24) := ⟨_, rfl⟩
  obtain ⟨W3, hW3⟩ : ∃ W, W = W2.alloc (.cells #[.bool false, .slice none 0 0, .slice none 0 0] 40) := ⟨_, rfl⟩
  have s1 : W1.heap.size = w.heap.size + 1 := by rw [hW1]; simp
  have s2 : W2.heap.size = w.heap.size + 1 + 1 := by rw [hW2]; simp [s1]
  have b1 : Below w.heap.size w W1 := by rw [hW1]; exact below_new w _
  have b2 : Below W1.heap.size W1 W2 := by rw [hW2]; exact below_new W1 _
  have b3 : Below W2.heap.size W2 W3 := by rw [hW3]; exact below_new W2 _
  have t1 : TfBox W1 w.heap.size st ao n cap := by rw [hW1]; exact TfBox.new w _ _ _ _
  have T3 : Hid (TfBox W3 w.heap.size st ao n cap) := carry (carry t1 b2) b3
  have c2 : TfBox W2 (w.heap.size + 1) su bo n2 dap := by rw [hW2, ← s1]; exact TfBox.new W1 _ _ _ _
  have C3 : Hid (TfBox W3 (w.heap.size + 1) su bo n2 dap) := carry c2 b3
  have R3 : Hid (W3.heap[w.heap.size + 1 + 1]? = some (.cells #[.bool false, .slice none 0 0, .slice none 0 0] 40 (0, 0))) := by unfold Hid; rw [hW3, ← s2]; exact heap_alloc_new _ _
  have HB3 : Hid (Below w.heap.size w W3) := (b1.trans (b2.mono b1.size)).trans (b3.mono (by omega))
  have HC : Hid (∀ w', Below w.heap.size w w' → Calls Try.prog 23 #[.agg #[.int .i64 st, .slice ao n cap]] w' (ErrIs (tE st bs) w')) := fun w' hb => by
    have := Validate_v st ao cap bs w' (h.below hb) hl
    rwa [← hn] at this
  have HA : Hid (∀ w', Below w.heap.size w w' → Calls Try.prog 10 #[.agg #[.int .i64 su, .slice bo n2 dap], .slice uo m uc] w' (MkE (uE su cs us) (avgQ su cs us) 11 w')) := fun w' hb => by
    rw [hn2, hm]
    exact Average_v su bo dap cs uo uc us w' (h2.below hb) (k.below hb) hl2 kl
  have HL : Hid (tE st bs = 0 → OkU us → ∀ w', Below w.heap.size w w' → Calls Try.prog 25 #[.agg #[.int .i64 st, .slice ao n cap], .slice uo m uc] w' (Mk (avgR st bs us) 11 w')) := fun he hu w' hb => by
    rw [hn, hm]
    exact average_loop st ao cap bs uo uc us w' he hu (h.below hb) (k.below hb)
  have HQ1 : Hid (iE st bs su cs us = 0 → ixQ st bs su cs us = avgR su cs us / avgR st bs us) := fun h => if_pos h
  have HQ0 : Hid (iE st bs su cs us ≠ 0 → ixQ st bs su cs us = 0) := fun h => if_neg h
  have HU : Hid (W3 = ((w.alloc (.cells #[.int .i64 st, .slice ao n cap] 24)).alloc (.cells #[.int .i64 su, .slice bo n2 dap] 24)).alloc (.cells #[.bool false, .slice none 0 0, .slice none 0 0] 40)) := by unfold Hid; rw [hW3, hW2, hW1]
  obtain ⟨u0, u1⟩ := T3.out.cells
  clear h h2 k hn hn2 hm hl hl2 kl s1 s2 b1 b2 b3 t1 c2 hW1 hW2 hW3
  have rest : ∀ w2, Below W3.heap.size W3 w2 → Hid (w2.heap[w.heap.size + 1 + 1]? = some (.cells #[.bool false, .slice none 0 0, .slice none 0 0] 40 (0, 0)) ∧ TfBox w2 w.heap.size st ao n cap ∧ TfBox w2 (w.heap.size + 1) su bo n2 dap ∧ Below w.heap.size w w2) := fun w2 hb => ⟨carry R3.out hb, carry T3.out hb, carry C3.out hb, HB3.out.trans (hb.mono HB3.out.size)⟩
  have REST := Lib.hid rest
  clear rest
  obtain ⟨er, her⟩ : ∃ er, er = tE st bs := ⟨_, rfl⟩
  have HER := Lib.hid her
  rw [← her] at HC
  clear her
  by_cases h0 : er = 0
  · subst h0
    have d0 : ((0 : Int) != 0) = false := rfl
    obtain ⟨eu, heu⟩ : ∃ e, e = uE su cs us := ⟨_, rfl⟩
    have HEU := Lib.hid heu
    rw [← heu] at HA
    clear heu
    by_cases h1 : eu = 0
    · subst h1
      have hou := uE_uses HEU.out.symm
      have AV := Lib.hid (HL.out HER.out.symm hou)
      have HAQ : Hid (avgQ su cs us = avgR su cs us) := if_pos HEU.out.symm
      clear hou
      go_enter Try.func12, Try.ntmps12
      go_wp2_with fail
      rw [← HU.out]
      refine (HC.out _ HB3.out).mono ?_; rintro e w4 ⟨rfl, b4⟩
      have K4 := REST.out w4 b4
      have B34 := Lib.hid b4
      clear b4 u0 u1
      obtain ⟨u0, u1⟩ := K4.out.2.2.1.cells
      go_wp2_with fail
      refine (HA.out _ K4.out.2.2.2).mono ?_; rintro e w5 ⟨v5, rfl, ⟨s, a, nn, c, o2, m2, d, rfl, q5⟩, b5⟩
      obtain ⟨wr, hwr⟩ : ∃ W, W = w5.alloc (.cells #[.bool s, .slice a nn c, .slice o2 m2 d] 40) := ⟨_, rfl⟩
      obtain ⟨g, hg⟩ : ∃ g, g = w5.heap.size := ⟨_, rfl⟩
      have b6 : Below w5.heap.size w5 wr := by rw [hwr]; exact below_new w5 _
      have XG : Hid (wr.heap[g]? = some (.cells #[.bool s, .slice a nn c, .slice o2 m2 d] 40 (0, 0))) := by unfold Hid; rw [hwr, hg]; exact heap_alloc_new _ _
      have HQ2 : Hid (CQ 0 wr s a nn c o2 m2 d (avgR su cs us) 11) := by rw [← HAQ.out]; exact q5.below b6
      have BR : Below W3.heap.size W3 wr := keepB (b5.trans (b6.mono b5.size)) B34.out (Nat.le_refl _)
      have KR := REST.out wr BR
      have HGW : Hid (g < wr.heap.size) := (Array.getElem?_eq_some_iff.1 XG.out).1
      have HRW : Hid (w.heap.size + 1 + 1 < wr.heap.size) := (Array.getElem?_eq_some_iff.1 KR.out.1).1
      have HWR := Lib.hid hwr
      have HGG := Lib.hid hg
      clear q5 b5 b6 BR hwr hg u0 u1 K4
      go_upto_region 5 with fail
      rw [← HWR.out]
      try rw [← HGG.out]
      clear HWR HGG
      go_upto_region 7 with fail
      refine wp_region_held_drew (S := fun w' => Below wr.heap.size wr w') (by kernel_rfl) ((Below.refl _ _).drew) (fun hH => ?_)
      refine wpAnyH_take (i := 0) (v := (.agg #[.bool s, .slice a nn c, .slice o2 m2 d])) rfl (by kernel_rfl) (by kernel_rfl) (by kernel_rfl) (fun _ _ _ h => h) (Or.inl ⟨by kernel_rfl, ?_⟩) hH ?_
      · intro w1 hB
        have hx := (hB.block g HGW.out).trans XG.out
        obtain ⟨o0, o1, o3, z0, z1, z2⟩ := at_block hx
        have tb : TfBox w1 w.heap.size st ao n cap := (hB.block w.heap.size (by have := HRW.out; omega)).trans KR.out.2.1
        obtain ⟨l0, l1⟩ := tb.cells
        clear tb hx
        go_simp
      change wpAnyH _ _ _ _ _ _ _ (Act.put _ (some 29) _) _
      try simp only [Act.put, List.setIfInBounds_toArray, List.set_cons_zero, List.set_cons_succ]
      refine wpAnyH_take (i := 1) (v := (.agg #[.int .i64 st, .slice ao n cap])) rfl (by kernel_rfl) (by kernel_rfl) (by kernel_rfl) (fun _ _ _ h => h) (Or.inl ⟨by kernel_rfl, ?_⟩) hH ?_
      · intro w1 hB
        have hx := (hB.block g HGW.out).trans XG.out
        obtain ⟨o0, o1, o3, z0, z1, z2⟩ := at_block hx
        have tb : TfBox w1 w.heap.size st ao n cap := (hB.block w.heap.size (by have := HRW.out; omega)).trans KR.out.2.1
        obtain ⟨l0, l1⟩ := tb.cells
        clear tb hx
        go_simp
      change wpAnyH _ _ _ _ _ _ _ (Act.put _ (some 30) _) _
      try simp only [Act.put, List.setIfInBounds_toArray, List.set_cons_zero, List.set_cons_succ]
      refine wpAnyH_take (i := 2) (v := (.slice uo m uc)) rfl (by kernel_rfl) (by kernel_rfl) (by kernel_rfl) (fun _ _ _ h => h) (Or.inl ⟨by kernel_rfl, ?_⟩) hH ?_
      · intro w1 hB
        go_simp
      change wpAnyH _ _ _ _ _ _ _ (Act.put _ (some 31) _) _
      try simp only [Act.put, List.setIfInBounds_toArray, List.set_cons_zero, List.set_cons_succ]
      refine wpAnyH_ready (rs := [3, 8]) (by kernel_rfl) (by simp) ?_
      refine AllReadyH.cons rfl (fun K hK => ?_) (AllReadyH.cons rfl (fun K hK => ?_) AllReadyH.nil)
      · go_simp
        refine (AV.out _ (KR.out.2.2.2.trans (Below.mono hH KR.out.2.2.2.size))).mono ?_
        rintro e V2 ⟨v, rfl, ⟨s2, a2, n2', c2, p2, m3, d2, rfl, q2⟩, v2⟩
        replace q2 := Lib.hid q2
        try go_simp
        refine hK.out _ _ (keepB v2 hH (Nat.le_refl _)) (fun hH3 => ?_)
        clear hK K
        try simp only [Act.put, List.setIfInBounds_toArray, List.set_cons_zero, List.set_cons_succ]
        refine wpAnyH_ready (rs := [4, 8]) (by kernel_rfl) (by simp) ?_
        refine AllReadyH.cons rfl (fun K hK => ?_) (AllReadyH.cons rfl (fun K hK => ?_) AllReadyH.nil)
        · go_simp
          refine (Quo_any _ _ _ _ _ _ _ _ _ _ _ _ _ _ 11 _ _ _ (HQ2.out.below hH3).rq q2.out.rq (by omega)).mono ?_
          rintro e V3 ⟨s3, a3, n3, c3, o3, m4, d3, ee, rfl, q3, hqz, v3⟩
          replace q3 := Lib.hid q3
          replace hqz := Lib.hid hqz
          try go_simp
          refine hK.out _ _ (keepB v3 hH3 (Nat.le_refl _)) (fun hH4 => ?_)
          clear hK K
          try simp only [Act.put, List.setIfInBounds_toArray, List.set_cons_zero, List.set_cons_succ]
          refine wpAnyH_take (i := 5) (v := (.tuple #[.agg #[.bool s3, .slice a3 n3 c3, .slice o3 m4 d3], .int .i64 ee])) rfl (by kernel_rfl) (by kernel_rfl) (by kernel_rfl) (fun _ _ _ h => h) (Or.inl ⟨by kernel_rfl, ?_⟩) hH4 ?_
          · intro w1 hB
            go_simp
          change wpAnyH _ _ _ _ _ _ _ (Act.put _ (some 28) _) _
          try simp only [Act.put, List.setIfInBounds_toArray, List.set_cons_zero, List.set_cons_succ]
          refine wpAnyH_take (i := 6) (v := (.agg #[.bool s3, .slice a3 n3 c3, .slice o3 m4 d3])) rfl (by kernel_rfl) (by kernel_rfl) (by kernel_rfl) (fun _ _ _ h => h) (Or.inl ⟨by kernel_rfl, ?_⟩) hH4 ?_
          · intro w1 hB
            go_simp
          change wpAnyH _ _ _ _ _ _ _ (Act.put _ (some 34) _) _
          try simp only [Act.put, List.setIfInBounds_toArray, List.set_cons_zero, List.set_cons_succ]
          refine wpAnyH_take (i := 7) (v := (.int .i64 ee)) rfl (by kernel_rfl) (by kernel_rfl) (by kernel_rfl) (fun _ _ _ h => h) (Or.inl ⟨by kernel_rfl, ?_⟩) hH4 ?_
          · intro w1 hB
            go_simp
          change wpAnyH _ _ _ _ _ _ _ (Act.put _ (some 35) _) _
          try simp only [Act.put, List.setIfInBounds_toArray, List.set_cons_zero, List.set_cons_succ]
          refine wpAnyH_ready (rs := [8]) (by kernel_rfl) (by simp) ?_
          refine AllReadyH.cons rfl (fun K hK => ?_) AllReadyH.nil
          go_simp
          have x9 : Hid ((V3.alloc (.cells #[.bool false, .slice none 0 0, .slice none 0 0] 40)).heap[V3.heap.size]? = some (.cells #[.bool false, .slice none 0 0, .slice none 0 0] 40 (0, 0))) := heap_alloc_new V3 (.cells #[.bool false, .slice none 0 0, .slice none 0 0] 40)
          obtain ⟨y0, y1, y2, z0, z1, z2⟩ := at_block x9.out
          try go_simp
          refine hK.out _ _ (Below.alloc hH4 (Below.size hH4) _) (fun hH8 => ?_)
          clear hK K
          try simp only [Act.put, List.setIfInBounds_toArray, List.set_cons_zero, List.set_cons_succ]
          refine wpAnyH_ready (rs := [9]) (by kernel_rfl) (by simp) ?_
          refine AllReadyH.cons rfl (fun K hK => ?_) AllReadyH.nil
          go_simp
          skip
          try go_simp
          refine hK.out _ _ (Below.alloc hH4 (Below.size hH4) _) (fun hH9 => ?_)
          clear hK K
          try simp only [Act.put, List.setIfInBounds_toArray, List.set_cons_zero, List.set_cons_succ]
          refine wpAnyH_take (i := 10) (v := (.int .i64 ee)) rfl (by kernel_rfl) (by kernel_rfl) (by kernel_rfl) (fun _ _ _ h => h) (Or.inl ⟨by kernel_rfl, ?_⟩) hH9 ?_
          · intro w1 hB
            go_simp
          change wpAnyH _ _ _ _ _ _ _ (Act.put _ (some 10) _) _
          try simp only [Act.put, List.setIfInBounds_toArray, List.set_cons_zero, List.set_cons_succ]
          refine wpAnyH_done (by kernel_rfl) ?_ _
          have k8 : (V3.alloc (.cells #[.bool s3, .slice a3 n3 c3, .slice o3 m4 d3] 40)).heap[V3.heap.size]? = some (.cells #[.bool s3, .slice a3 n3 c3, .slice o3 m4 d3] 40 (0, 0)) := heap_alloc_new V3 (.cells #[.bool s3, .slice a3 n3 c3, .slice o3 m4 d3] 40)
          have q8 : CQ 0 (V3.alloc (.cells #[.bool s3, .slice a3 n3 c3, .slice o3 m4 d3] 40)) s3 a3 n3 c3 o3 m4 d3 (avgR su cs us / avgR st bs us) 23 := (q3.out.mono (Nat.zero_le _)).below (below_new V3 (.cells #[.bool s3, .slice a3 n3 c3, .slice o3 m4 d3] 40))
          have h8 : Below wr.heap.size wr (V3.alloc (.cells #[.bool s3, .slice a3 n3 c3, .slice o3 m4 d3] 40)) := hH9
          have r8 : ((V3.alloc (.cells #[.bool s3, .slice a3 n3 c3, .slice o3 m4 d3] 40))).heap[w.heap.size + 1 + 1]? = some (.cells #[.bool false, .slice none 0 0, .slice none 0 0] 40 (0, 0)) := (h8.block (w.heap.size + 1 + 1) HRW.out).trans KR.out.1
          obtain ⟨W8, hW8⟩ : ∃ W, W = (V3.alloc (.cells #[.bool s3, .slice a3 n3 c3, .slice o3 m4 d3] 40)) := ⟨_, rfl⟩
          rw [← hW8] at k8 q8 h8 r8 ⊢
          clear hW8
          obtain ⟨l0, l1, l2, -, -, -⟩ := at_block k8
          obtain ⟨f0, f1, f2, e0, e1, e2⟩ := at_block r8
          have r9 := Lib.hid (set3_at r8 (.bool s3) (.slice a3 n3 c3) (.slice o3 m4 d3))
          have r9z := Lib.hid (set3_at r8 (.bool false) (.slice none 0 0) (.slice none 0 0))
          have BW8 : Hid (Below w.heap.size w W8) := KR.out.2.2.2.trans (h8.mono KR.out.2.2.2.size)
          have Q9 : Hid (IsQ (avgR su cs us / avgR st bs us) 23 (.agg #[.bool s3, .slice a3 n3 c3, .slice o3 m4 d3]) (((W8.setCell ⟨w.heap.size + 1 + 1, 0, none⟩ (.bool s3)).setCell ⟨w.heap.size + 1 + 1, 1, none⟩ (.slice a3 n3 c3)).setCell ⟨w.heap.size + 1 + 1, 2, none⟩ (.slice o3 m4 d3))) := ⟨_, _, _, _, _, _, _, rfl, CQ.extT (by decide) q8 (ExtT.set3 (n := 0) ⟨_, _, _, r8⟩ (Nat.zero_le _) _ _ _)⟩
          clear k8 q8 h8 r8
          rcases hqz.out with ⟨hz, rfl⟩ | ⟨hz, rfl⟩
          · have he := iE_z HER.out.symm HEU.out.symm hz
            have hq := Lib.hid (HQ0.out (by rw [he]; decide))
            have HEE := Lib.hid he
            clear he hz hqz
            go_wp2_with fail
            obtain ⟨o0, o1, o3', -, -, -⟩ := at_block r9z.out
            refine bodyPost_ret (v := .tuple #[.agg #[.bool false, .slice none 0 0, .slice none 0 0], .int .i64 144]) (by simp [results, Try.results12, go_sem, o0, o1, o3']) rfl ?_
            exact ⟨_, by rw [HEE.out], by rw [hq.out]; exact isq_zero _ 23 (by omega) (by omega), below3 BW8.out (by omega) _ _ _⟩
          · have he := iE_ok HER.out.symm HEU.out.symm hz
            have hq := Lib.hid (HQ1.out he)
            have HEE := Lib.hid he
            clear he hz hqz
            go_wp2_with fail
            obtain ⟨o0, o1, o3', -, -, -⟩ := at_block r9.out
            refine bodyPost_ret (v := .tuple #[.agg #[.bool s3, .slice a3 n3 c3, .slice o3 m4 d3], .int .i64 0]) (by simp [results, Try.results12, go_sem, o0, o1, o3']) rfl ?_
            exact ⟨_, by rw [HEE.out], by rw [hq.out]; exact Q9.out, below3 BW8.out (by omega) _ _ _⟩
        · go_simp
          skip
          try go_simp
          refine hK.out _ _ (Below.alloc hH3 (Below.size hH3) _) (fun hH8 => ?_)
          clear hK K
          try simp only [Act.put, List.setIfInBounds_toArray, List.set_cons_zero, List.set_cons_succ]
          refine wpAnyH_ready (rs := [4]) (by kernel_rfl) (by simp) ?_
          refine AllReadyH.cons rfl (fun K hK => ?_) AllReadyH.nil
          go_simp
          refine (Quo_any _ _ _ _ _ _ _ _ _ _ _ _ _ _ 11 _ _ _ (HQ2.out.below hH8).rq (q2.out.below (below_new V2 (.cells #[.bool false, .slice none 0 0, .slice none 0 0] 40))).rq (by omega)).mono ?_
          rintro e V3 ⟨s3, a3, n3, c3, o3, m4, d3, ee, rfl, q3, hqz, v3⟩
          replace q3 := Lib.hid q3
          replace hqz := Lib.hid hqz
          have x10 : Hid (V3.heap[V2.heap.size]? = some (.cells #[.bool false, .slice none 0 0, .slice none 0 0] 40 (0, 0))) := carry (heap_alloc_new V2 (.cells #[.bool false, .slice none 0 0, .slice none 0 0] 40)) v3
          obtain ⟨y0, y1, y2, z0, z1, z2⟩ := at_block x10.out
          try go_simp
          refine hK.out _ _ (keepB v3 hH8 (Nat.le_refl _)) (fun hH4 => ?_)
          clear hK K
          try simp only [Act.put, List.setIfInBounds_toArray, List.set_cons_zero, List.set_cons_succ]
          refine wpAnyH_take (i := 5) (v := (.tuple #[.agg #[.bool s3, .slice a3 n3 c3, .slice o3 m4 d3], .int .i64 ee])) rfl (by kernel_rfl) (by kernel_rfl) (by kernel_rfl) (fun _ _ _ h => h) (Or.inl ⟨by kernel_rfl, ?_⟩) hH4 ?_
          · intro w1 hB
            go_simp
          change wpAnyH _ _ _ _ _ _ _ (Act.put _ (some 28) _) _
          try simp only [Act.put, List.setIfInBounds_toArray, List.set_cons_zero, List.set_cons_succ]
          refine wpAnyH_take (i := 6) (v := (.agg #[.bool s3, .slice a3 n3 c3, .slice o3 m4 d3])) rfl (by kernel_rfl) (by kernel_rfl) (by kernel_rfl) (fun _ _ _ h => h) (Or.inl ⟨by kernel_rfl, ?_⟩) hH4 ?_
          · intro w1 hB
            go_simp
          change wpAnyH _ _ _ _ _ _ _ (Act.put _ (some 34) _) _
          try simp only [Act.put, List.setIfInBounds_toArray, List.set_cons_zero, List.set_cons_succ]
          refine wpAnyH_take (i := 7) (v := (.int .i64 ee)) rfl (by kernel_rfl) (by kernel_rfl) (by kernel_rfl) (fun _ _ _ h => h) (Or.inl ⟨by kernel_rfl, ?_⟩) hH4 ?_
          · intro w1 hB
            go_simp
          change wpAnyH _ _ _ _ _ _ _ (Act.put _ (some 35) _) _
          try simp only [Act.put, List.setIfInBounds_toArray, List.set_cons_zero, List.set_cons_succ]
          refine wpAnyH_ready (rs := [9]) (by kernel_rfl) (by simp) ?_
          refine AllReadyH.cons rfl (fun K hK => ?_) AllReadyH.nil
          go_simp
          skip
          try go_simp
          refine hK.out _ _ (below3 hH4 (Below.size hH3) _ _ _) (fun hH9 => ?_)
          clear hK K
          try simp only [Act.put, List.setIfInBounds_toArray, List.set_cons_zero, List.set_cons_succ]
          refine wpAnyH_take (i := 10) (v := (.int .i64 ee)) rfl (by kernel_rfl) (by kernel_rfl) (by kernel_rfl) (fun _ _ _ h => h) (Or.inl ⟨by kernel_rfl, ?_⟩) hH9 ?_
          · intro w1 hB
            go_simp
          change wpAnyH _ _ _ _ _ _ _ (Act.put _ (some 10) _) _
          try simp only [Act.put, List.setIfInBounds_toArray, List.set_cons_zero, List.set_cons_succ]
          refine wpAnyH_done (by kernel_rfl) ?_ _
          have k8 := set3_at x10.out (.bool s3) (.slice a3 n3 c3) (.slice o3 m4 d3)
          have q8 : CQ 0 (((V3.setCell ⟨V2.heap.size, 0, none⟩ (.bool s3)).setCell ⟨V2.heap.size, 1, none⟩ (.slice a3 n3 c3)).setCell ⟨V2.heap.size, 2, none⟩ (.slice o3 m4 d3)) s3 a3 n3 c3 o3 m4 d3 (avgR su cs us / avgR st bs us) 23 := CQ.extT (by decide) (q3.out.mono (Nat.zero_le _)) (ExtT.set3 (n := 0) ⟨_, _, _, x10.out⟩ (Nat.zero_le _) _ _ _)
          have h8 : Below wr.heap.size wr (((V3.setCell ⟨V2.heap.size, 0, none⟩ (.bool s3)).setCell ⟨V2.heap.size, 1, none⟩ (.slice a3 n3 c3)).setCell ⟨V2.heap.size, 2, none⟩ (.slice o3 m4 d3)) := hH9
          have r8 : ((((V3.setCell ⟨V2.heap.size, 0, none⟩ (.bool s3)).setCell ⟨V2.heap.size, 1, none⟩ (.slice a3 n3 c3)).setCell ⟨V2.heap.size, 2, none⟩ (.slice o3 m4 d3))).heap[w.heap.size + 1 + 1]? = some (.cells #[.bool false, .slice none 0 0, .slice none 0 0] 40 (0, 0)) := (h8.block (w.heap.size + 1 + 1) HRW.out).trans KR.out.1
          obtain ⟨W8, hW8⟩ : ∃ W, W = (((V3.setCell ⟨V2.heap.size, 0, none⟩ (.bool s3)).setCell ⟨V2.heap.size, 1, none⟩ (.slice a3 n3 c3)).setCell ⟨V2.heap.size, 2, none⟩ (.slice o3 m4 d3)) := ⟨_, rfl⟩
          rw [← hW8] at k8 q8 h8 r8 ⊢
          clear hW8
          obtain ⟨l0, l1, l2, -, -, -⟩ := at_block k8
          obtain ⟨f0, f1, f2, e0, e1, e2⟩ := at_block r8
          have r9 := Lib.hid (set3_at r8 (.bool s3) (.slice a3 n3 c3) (.slice o3 m4 d3))
          have r9z := Lib.hid (set3_at r8 (.bool false) (.slice none 0 0) (.slice none 0 0))
          have BW8 : Hid (Below w.heap.size w W8) := KR.out.2.2.2.trans (h8.mono KR.out.2.2.2.size)
          have Q9 : Hid (IsQ (avgR su cs us / avgR st bs us) 23 (.agg #[.bool s3, .slice a3 n3 c3, .slice o3 m4 d3]) (((W8.setCell ⟨w.heap.size + 1 + 1, 0, none⟩ (.bool s3)).setCell ⟨w.heap.size + 1 + 1, 1, none⟩ (.slice a3 n3 c3)).setCell ⟨w.heap.size + 1 + 1, 2, none⟩ (.slice o3 m4 d3))) := ⟨_, _, _, _, _, _, _, rfl, CQ.extT (by decide) q8 (ExtT.set3 (n := 0) ⟨_, _, _, r8⟩ (Nat.zero_le _) _ _ _)⟩
          clear k8 q8 h8 r8
          rcases hqz.out with ⟨hz, rfl⟩ | ⟨hz, rfl⟩
          · have he := iE_z HER.out.symm HEU.out.symm hz
            have hq := Lib.hid (HQ0.out (by rw [he]; decide))
            have HEE := Lib.hid he
            clear he hz hqz
            go_wp2_with fail
            obtain ⟨o0, o1, o3', -, -, -⟩ := at_block r9z.out
            refine bodyPost_ret (v := .tuple #[.agg #[.bool false, .slice none 0 0, .slice none 0 0], .int .i64 144]) (by simp [results, Try.results12, go_sem, o0, o1, o3']) rfl ?_
            exact ⟨_, by rw [HEE.out], by rw [hq.out]; exact isq_zero _ 23 (by omega) (by omega), below3 BW8.out (by omega) _ _ _⟩
          · have he := iE_ok HER.out.symm HEU.out.symm hz
            have hq := Lib.hid (HQ1.out he)
            have HEE := Lib.hid he
            clear he hz hqz
            go_wp2_with fail
            obtain ⟨o0, o1, o3', -, -, -⟩ := at_block r9.out
            refine bodyPost_ret (v := .tuple #[.agg #[.bool s3, .slice a3 n3 c3, .slice o3 m4 d3], .int .i64 0]) (by simp [results, Try.results12, go_sem, o0, o1, o3']) rfl ?_
            exact ⟨_, by rw [HEE.out], by rw [hq.out]; exact Q9.out, below3 BW8.out (by omega) _ _ _⟩
      · go_simp
        skip
        try go_simp
        refine hK.out _ _ (Below.alloc hH (Below.size hH) _) (fun hH8 => ?_)
        clear hK K
        try simp only [Act.put, List.setIfInBounds_toArray, List.set_cons_zero, List.set_cons_succ]
        refine wpAnyH_ready (rs := [3]) (by kernel_rfl) (by simp) ?_
        refine AllReadyH.cons rfl (fun K hK => ?_) AllReadyH.nil
        go_simp
        refine (AV.out _ (KR.out.2.2.2.trans (Below.mono hH8 KR.out.2.2.2.size))).mono ?_
        rintro e V2 ⟨v, rfl, ⟨s2, a2, n2', c2, p2, m3, d2, rfl, q2⟩, v2⟩
        replace q2 := Lib.hid q2
        have x9 : Hid (V2.heap[wr.heap.size]? = some (.cells #[.bool false, .slice none 0 0, .slice none 0 0] 40 (0, 0))) := carry (show (wr.alloc (.cells #[.bool false, .slice none 0 0, .slice none 0 0] 40)).drew.heap[wr.heap.size]? = some (.cells #[.bool false, .slice none 0 0, .slice none 0 0] 40 (0, 0)) from heap_alloc_new wr (.cells #[.bool false, .slice none 0 0, .slice none 0 0] 40)) v2
        try go_simp
        refine hK.out _ _ (keepB v2 hH8 (Nat.le_refl _)) (fun hH3 => ?_)
        clear hK K
        try simp only [Act.put, List.setIfInBounds_toArray, List.set_cons_zero, List.set_cons_succ]
        refine wpAnyH_ready (rs := [4]) (by kernel_rfl) (by simp) ?_
        refine AllReadyH.cons rfl (fun K hK => ?_) AllReadyH.nil
        go_simp
        refine (Quo_any _ _ _ _ _ _ _ _ _ _ _ _ _ _ 11 _ _ _ (HQ2.out.below hH3).rq q2.out.rq (by omega)).mono ?_
        rintro e V3 ⟨s3, a3, n3, c3, o3, m4, d3, ee, rfl, q3, hqz, v3⟩
        replace q3 := Lib.hid q3
        replace hqz := Lib.hid hqz
        have x10 : Hid (V3.heap[wr.heap.size]? = some (.cells #[.bool false, .slice none 0 0, .slice none 0 0] 40 (0, 0))) := carry x9.out v3
        obtain ⟨y0, y1, y2, z0, z1, z2⟩ := at_block x10.out
        try go_simp
        refine hK.out _ _ (keepB v3 hH3 (Nat.le_refl _)) (fun hH4 => ?_)
        clear hK K
        try simp only [Act.put, List.setIfInBounds_toArray, List.set_cons_zero, List.set_cons_succ]
        refine wpAnyH_take (i := 5) (v := (.tuple #[.agg #[.bool s3, .slice a3 n3 c3, .slice o3 m4 d3], .int .i64 ee])) rfl (by kernel_rfl) (by kernel_rfl) (by kernel_rfl) (fun _ _ _ h => h) (Or.inl ⟨by kernel_rfl, ?_⟩) hH4 ?_
        · intro w1 hB
          go_simp
        change wpAnyH _ _ _ _ _ _ _ (Act.put _ (some 28) _) _
        try simp only [Act.put, List.setIfInBounds_toArray, List.set_cons_zero, List.set_cons_succ]
        refine wpAnyH_take (i := 6) (v := (.agg #[.bool s3, .slice a3 n3 c3, .slice o3 m4 d3])) rfl (by kernel_rfl) (by kernel_rfl) (by kernel_rfl) (fun _ _ _ h => h) (Or.inl ⟨by kernel_rfl, ?_⟩) hH4 ?_
        · intro w1 hB
          go_simp
        change wpAnyH _ _ _ _ _ _ _ (Act.put _ (some 34) _) _
        try simp only [Act.put, List.setIfInBounds_toArray, List.set_cons_zero, List.set_cons_succ]
        refine wpAnyH_take (i := 7) (v := (.int .i64 ee)) rfl (by kernel_rfl) (by kernel_rfl) (by kernel_rfl) (fun _ _ _ h => h) (Or.inl ⟨by kernel_rfl, ?_⟩) hH4 ?_
        · intro w1 hB
          go_simp
        change wpAnyH _ _ _ _ _ _ _ (Act.put _ (some 35) _) _
        try simp only [Act.put, List.setIfInBounds_toArray, List.set_cons_zero, List.set_cons_succ]
        refine wpAnyH_ready (rs := [9]) (by kernel_rfl) (by simp) ?_
        refine AllReadyH.cons rfl (fun K hK => ?_) AllReadyH.nil
        go_simp
        skip
        try go_simp
        refine hK.out _ _ (below3 hH4 (Nat.le_refl _) _ _ _) (fun hH9 => ?_)
        clear hK K
        try simp only [Act.put, List.setIfInBounds_toArray, List.set_cons_zero, List.set_cons_succ]
        refine wpAnyH_take (i := 10) (v := (.int .i64 ee)) rfl (by kernel_rfl) (by kernel_rfl) (by kernel_rfl) (fun _ _ _ h => h) (Or.inl ⟨by kernel_rfl, ?_⟩) hH9 ?_
        · intro w1 hB
          go_simp
        change wpAnyH _ _ _ _ _ _ _ (Act.put _ (some 10) _) _
        try simp only [Act.put, List.setIfInBounds_toArray, List.set_cons_zero, List.set_cons_succ]
        refine wpAnyH_done (by kernel_rfl) ?_ _
        have k8 := set3_at x10.out (.bool s3) (.slice a3 n3 c3) (.slice o3 m4 d3)
        have q8 : CQ 0 (((V3.setCell ⟨wr.heap.size, 0, none⟩ (.bool s3)).setCell ⟨wr.heap.size, 1, none⟩ (.slice a3 n3 c3)).setCell ⟨wr.heap.size, 2, none⟩ (.slice o3 m4 d3)) s3 a3 n3 c3 o3 m4 d3 (avgR su cs us / avgR st bs us) 23 := CQ.extT (by decide) (q3.out.mono (Nat.zero_le _)) (ExtT.set3 (n := 0) ⟨_, _, _, x10.out⟩ (Nat.zero_le _) _ _ _)
        have h8 : Below wr.heap.size wr (((V3.setCell ⟨wr.heap.size, 0, none⟩ (.bool s3)).setCell ⟨wr.heap.size, 1, none⟩ (.slice a3 n3 c3)).setCell ⟨wr.heap.size, 2, none⟩ (.slice o3 m4 d3)) := hH9
        have r8 : ((((V3.setCell ⟨wr.heap.size, 0, none⟩ (.bool s3)).setCell ⟨wr.heap.size, 1, none⟩ (.slice a3 n3 c3)).setCell ⟨wr.heap.size, 2, none⟩ (.slice o3 m4 d3))).heap[w.heap.size + 1 + 1]? = some (.cells #[.bool false, .slice none 0 0, .slice none 0 0] 40 (0, 0)) := (h8.block (w.heap.size + 1 + 1) HRW.out).trans KR.out.1
        obtain ⟨W8, hW8⟩ : ∃ W, W = (((V3.setCell ⟨wr.heap.size, 0, none⟩ (.bool s3)).setCell ⟨wr.heap.size, 1, none⟩ (.slice a3 n3 c3)).setCell ⟨wr.heap.size, 2, none⟩ (.slice o3 m4 d3)) := ⟨_, rfl⟩
        rw [← hW8] at k8 q8 h8 r8 ⊢
        clear hW8
        obtain ⟨l0, l1, l2, -, -, -⟩ := at_block k8
        obtain ⟨f0, f1, f2, e0, e1, e2⟩ := at_block r8
        have r9 := Lib.hid (set3_at r8 (.bool s3) (.slice a3 n3 c3) (.slice o3 m4 d3))
        have r9z := Lib.hid (set3_at r8 (.bool false) (.slice none 0 0) (.slice none 0 0))
        have BW8 : Hid (Below w.heap.size w W8) := KR.out.2.2.2.trans (h8.mono KR.out.2.2.2.size)
        have Q9 : Hid (IsQ (avgR su cs us / avgR st bs us) 23 (.agg #[.bool s3, .slice a3 n3 c3, .slice o3 m4 d3]) (((W8.setCell ⟨w.heap.size + 1 + 1, 0, none⟩ (.bool s3)).setCell ⟨w.heap.size + 1 + 1, 1, none⟩ (.slice a3 n3 c3)).setCell ⟨w.heap.size + 1 + 1, 2, none⟩ (.slice o3 m4 d3))) := ⟨_, _, _, _, _, _, _, rfl, CQ.extT (by decide) q8 (ExtT.set3 (n := 0) ⟨_, _, _, r8⟩ (Nat.zero_le _) _ _ _)⟩
        clear k8 q8 h8 r8
        rcases hqz.out with ⟨hz, rfl⟩ | ⟨hz, rfl⟩
        · have he := iE_z HER.out.symm HEU.out.symm hz
          have hq := Lib.hid (HQ0.out (by rw [he]; decide))
          have HEE := Lib.hid he
          clear he hz hqz
          go_wp2_with fail
          obtain ⟨o0, o1, o3', -, -, -⟩ := at_block r9z.out
          refine bodyPost_ret (v := .tuple #[.agg #[.bool false, .slice none 0 0, .slice none 0 0], .int .i64 144]) (by simp [results, Try.results12, go_sem, o0, o1, o3']) rfl ?_
          exact ⟨_, by rw [HEE.out], by rw [hq.out]; exact isq_zero _ 23 (by omega) (by omega), below3 BW8.out (by omega) _ _ _⟩
        · have he := iE_ok HER.out.symm HEU.out.symm hz
          have hq := Lib.hid (HQ1.out he)
          have HEE := Lib.hid he
          clear he hz hqz
          go_wp2_with fail
          obtain ⟨o0, o1, o3', -, -, -⟩ := at_block r9.out
          refine bodyPost_ret (v := .tuple #[.agg #[.bool s3, .slice a3 n3 c3, .slice o3 m4 d3], .int .i64 0]) (by simp [results, Try.results12, go_sem, o0, o1, o3']) rfl ?_
          exact ⟨_, by rw [HEE.out], by rw [hq.out]; exact Q9.out, below3 BW8.out (by omega) _ _ _⟩
    · have d1 : (eu != 0) = true := bne_iff_ne.2 h1
      have he := iE_u (st := st) (bs := bs) HER.out.symm (show uE su cs us ≠ 0 by rw [← HEU.out]; exact h1)
      rw [← HEU.out] at he
      have hz := Lib.hid (HQ0.out (by rw [he]; exact h1))
      have HEE := Lib.hid he
      clear he h1
      go_enter Try.func12, Try.ntmps12
      go_wp2_with fail
      rw [← HU.out]
      refine (HC.out _ HB3.out).mono ?_; rintro e w4 ⟨rfl, b4⟩
      have K4 := REST.out w4 b4
      have B34 := Lib.hid b4
      clear b4 u0 u1
      obtain ⟨u0, u1⟩ := K4.out.2.2.1.cells
      go_wp2_with fail
      refine (HA.out _ K4.out.2.2.2).mono ?_; rintro e w5 ⟨v5, rfl, ⟨s, a, nn, c, o2, m2, d, rfl, q5⟩, b5⟩
      obtain ⟨wr, hwr⟩ : ∃ W, W = w5.alloc (.cells #[.bool s, .slice a nn c, .slice o2 m2 d] 40) := ⟨_, rfl⟩
      have b6 : Below w5.heap.size w5 wr := by rw [hwr]; exact below_new w5 _
      have BR : Below W3.heap.size W3 wr := keepB (b5.trans (b6.mono b5.size)) B34.out (Nat.le_refl _)
      have KR := REST.out wr BR
      have HWR := Lib.hid hwr
      clear q5 b5 b6 BR hwr u0 u1 K4
      go_upto_region 5 with fail
      rw [← HWR.out]
      clear HWR
      obtain ⟨p0, p1, p2, z0, z1, z2⟩ := at_block KR.out.1
      have R4 := Lib.hid (set3_at KR.out.1 (.bool false) (.slice none 0 0) (.slice none 0 0))
      go_wp2_with fail
      obtain ⟨o0, o1, o2', -, -, -⟩ := at_block R4.out
      refine bodyPost_ret (v := .tuple #[.agg #[.bool false, .slice none 0 0, .slice none 0 0], .int .i64 eu]) (by simp [results, Try.results12, go_sem, o0, o1, o2']) rfl ?_
      exact ⟨_, by rw [HEE.out], by rw [hz.out]; exact isq_zero _ 23 (by omega) (by omega), below3 KR.out.2.2.2 (by omega) _ _ _⟩
  · have d0 : (er != 0) = true := bne_iff_ne.2 h0
    have he := iE_t (su := su) (cs := cs) (us := us) (show tE st bs ≠ 0 by rw [← HER.out]; exact h0)
    rw [← HER.out] at he
    have hz := Lib.hid (HQ0.out (by rw [he]; exact h0))
    have HEE := Lib.hid he
    clear h0 he
    go_enter Try.func12, Try.ntmps12
    go_wp2_with fail
    rw [← HU.out]
    refine (HC.out _ HB3.out).mono ?_; rintro e w4 ⟨rfl, b4⟩
    have K4 := REST.out w4 b4
    clear b4 u0 u1
    obtain ⟨p0, p1, p2, z0, z1, z2⟩ := at_block K4.out.1
    have R4 := Lib.hid (set3_at K4.out.1 (.bool false) (.slice none 0 0) (.slice none 0 0))
    go_wp2_with fail
    obtain ⟨o0, o1, o2', -, -, -⟩ := at_block R4.out
    refine bodyPost_ret (v := .tuple #[.agg #[.bool false, .slice none 0 0, .slice none 0 0], .int .i64 er]) (by simp [results, Try.results12, go_sem, o0, o1, o2']) rfl ?_
    exact ⟨_, by rw [HEE.out], by rw [hz.out]; exact isq_zero _ 23 (by omega) (by omega), below3 K4.out.2.2.2 (by omega) _ _ _⟩
end Go.Proofs.Ytdcnkebcpaelpaa.T14
/- Layer 14: make's Uses: one to four uses of the tape. -/
namespace Go.Proofs.Ytdcnkebcpaelpaa.T14
open Go.RowKit Go.Sort C6

theorem infoUse : (Try.prog.info? 35).map (fun i => (i.zero, i.size, i.bytes)) = some (some (.agg #[.int .i64 0, .int .i64 0]), 2, 16) := by kernel_rfl
/-- small uses -/
def SmU (us : List (Int × Int)) : Prop := ∀ i, i < us.length → 0 ≤ up us i ∧ up us i ≤ 149 ∧ 1 ≤ prc us i ∧ prc us i ≤ 9
theorem SmU.snoc {us : List (Int × Int)} (h : SmU us) {a c : Int} (ha : 0 ≤ a ∧ a ≤ 149) (hc : 1 ≤ c ∧ c ≤ 9) : SmU (us ++ [(a, c)]) := by
  intro i hi
  rw [List.length_append, List.length_singleton] at hi
  by_cases e : i < us.length
  · have := h i e
    unfold up prc at this ⊢
    rwa [getD_snoc', if_pos e]
  · unfold up prc
    rw [getD_snoc', if_neg e, if_pos (by omega)]
    exact ⟨ha.1, ha.2, hc.1, hc.2⟩
def UsPost (w : World) (B : Nat) (ao : Option Addr) (tn tcap j : Nat) (e : Ending) (w' : World) : Prop :=
  ∃ (a : Option Addr) (c : Nat) (us : List (Int × Int)) (j' : Nat), e = .returned (.slice a us.length c) ∧ w'.ownsRow w.heap.size 35 2 (.slice a us.length c) us.length (bkv us) ∧ 1 ≤ us.length ∧ us.length ≤ 4 ∧ SmU us ∧
    w.grownBy w' (some B) ∧ j' ≤ j + 9 ∧ Tap w' B ao tn tcap j'

set_option maxHeartbeats 8000000 in
set_option maxRecDepth 100000 in
theorem Uses_v (B : Nat) (ao : Option Addr) (tcap : Nat) (ts : List Int) (j : Nat) (w : World) (hb : Tap w B ao ts.length tcap j) (ht : RdZ w ao tcap ts) (hlt : 0 < ts.length → ∀ b o, ao = some ⟨b, o, none⟩ → b < w.heap.size ∧ b ≠ B) (hj : j ≤ 2000) :
    Calls Try.prog 7 #[.pointer (some ⟨B, 0, none⟩)] w (UsPost w B ao ts.length tcap j) := by
  obtain ⟨i0, hi, hz0, hz1, hz2⟩ := info_parts infoUse
  obtain ⟨tn, htn⟩ : ∃ tn, tn = ts.length := ⟨_, rfl⟩
  have hBw := hb.lt
  have NX : Hid (∀ (w1 : World) (i m : Nat), Tap w1 B ao tn tcap i → w.grownBy w1 (some B) → i ≤ 3000 → 1 ≤ m → m ≤ 1000000 → ∀ n : Int, n = m → Calls Try.prog 8 #[.pointer (some ⟨B, 0, none⟩), .int .i64 n] w1 (NextPost w1 B ao tn tcap i m)) := by
    intro w1 i m h1 h2 h3 h4 h5 n h6
    rw [htn] at h1 ⊢
    refine Next_v B ao tcap ts i m w1 h1 ?_ h3 h4 h5 n h6
    refine ⟨ht.1, ht.2.1, ?_⟩
    rcases ht.2.2 with hn | ⟨b, o, e, hc⟩
    · exact .inl hn
    · refine .inr ⟨b, o, e, fun i v hi => ?_⟩
      have hl : 0 < ts.length := by
        have := (List.getElem?_eq_some_iff.1 hi).1
        rw [intz_length] at this
        omega
      exact h2.cell (hc i v hi) (fun q => (hlt hl b o e).2 (Option.some.inj q))
  rw [← htn] at hb ⊢
  have HB := Lib.hid hb
  have HBW := Lib.hid hBw
  clear htn hb ht hlt hBw
  go_enter Try.func7, Try.ntmps7
  go_wp2_with fail
  refine (NX.out _ j 4 HB.out (below_gb (Below.refl _ _) _) (by omega) (by omega) (by omega) _ rfl).mono ?_
  rintro e w1 ⟨r1, rfl, hr1, g1, hs1, t1⟩
  obtain ⟨k, hk⟩ : ∃ k : Nat, (1 : Int) + (r1 : Int) = (k : Int) := ⟨1 + r1, by omega⟩
  have hkb : 1 ≤ k ∧ k ≤ 4 := by omega
  have HKB := Lib.hid hkb
  have G1 := Lib.hid g1
  have T1 := Lib.hid t1
  have HS1 : Hid (w1.heap.size = w.heap.size) := hs1
  clear hkb g1 t1 hs1
  go_wp2_with fail
  go_loopw [3, 7] (fun s3 s7 wr => ∃ (i : Nat) (av : Option Addr) (c : Nat) (us : List (Int × Int)), i ≤ k ∧ s7 = .int .i64 (i : Int) ∧ s3 = .slice av i c ∧ Hid (Tap wr B ao tn tcap (j + 1 + 2 * i)) ∧ Hid (w.grownBy wr (some B)) ∧ Hid (wr.ownsRow w.heap.size 35 2 (.slice av i c) i (bkv us)) ∧ Hid (SmU us)) (fun _ s7 _ => k - (intOf s7).toNat)
  case atStart => exact ⟨0, none, 0, [], by omega, rfl, rfl, T1.out, G1.out, World.ownsRow_nil _ _ _ _, (show SmU [] from fun i hi => by simp at hi)⟩
  case round =>
    obtain ⟨i, av, c, us, hik, rfl, rfl, hT, hG, hO, hS⟩ := hrel
    have hk4 : k ≤ 4 := HKB.out.2
    by_cases hlt : i < k
    · have hlt2 : (i : Int) < (k : Int) := by omega
      go_wp2_with fail
      refine (NX.out _ (j + 1 + 2 * i) 150 hT.out hG.out (by omega) (by omega) (by omega) _ rfl).mono ?_
      rintro e w2 ⟨r2, rfl, hr2, g2, hs2, t2⟩
      have T2 := Lib.hid t2
      have G2 : Hid (w.grownBy w2 (some B)) := gb_trans hG.out g2
      have O2 : Hid (w2.ownsRow w.heap.size 35 2 (.slice av i c) i (bkv us)) := hO.out.kept g2 (rowne hO.out HBW.out)
      have HR2 := Lib.hid hr2
      clear t2 g2 hs2 hr2 hT hG hO
      go_wp2_with fail
      refine (NX.out _ (j + 1 + 2 * i + 1) 9 T2.out G2.out (by omega) (by omega) (by omega) _ rfl).mono ?_
      rintro e w3 ⟨r3, rfl, hr3, g3, hs3, t3⟩
      have T3 := Lib.hid t3
      have G3 : Hid (w.grownBy w3 (some B)) := gb_trans G2.out g3
      have O3 : Hid (w3.ownsRow w.heap.size 35 2 (.slice av i c) i (bkv us)) := O2.out.kept g3 (rowne O2.out HBW.out)
      have HR3 := Lib.hid hr3
      obtain ⟨q, hq⟩ : ∃ q : Nat, (1 : Int) + (r3 : Int) = (q : Int) := ⟨1 + r3, by omega⟩
      have HQ : Hid (1 ≤ q ∧ q ≤ 9) := ⟨by omega, by omega⟩
      have HLB : Hid (w.heap.size ≤ w3.heap.size) := G3.out.size
      clear t3 g3 hs3 T2 G2 O2
      go_wp2_with (at_builtin; go_loud (refine wpList_append_own _ rfl _ _ 25 rfl w.heap.size 35 i0 (.agg #[.int .i64 0, .int .i64 0]) 2 16 Try.underlying25 hi hz0 hz1 hz2 rfl (by omega) _ _ _ rfl (O3.out.alloc _) ⟨w3.heap.size, 0, none⟩ 1 1 [.int .i64 (r2 : Int), .int .i64 (q : Int)] rfl rfl (two_cell _ _ _ _) (bkv_one' [((r2 : Int), (q : Int))]) (by unfold maxLen; omega) (by omega) (by have := HLB.out; simp; omega) ?_; intro v4 w4 hown4 hgr4 _; obtain ⟨a4, c4, rfl⟩ := of_row_k hown4))
      have b4 := below_new w3 (.cells #[.int .i64 (r2 : Int), .int .i64 (q : Int)] 35)
      have G4 : Hid (w.grownBy w4 (some B)) := gbjoin (gb_trans G3.out (below_gb b4 _)) hgr4 (fun r e => (O3.out.lt r e).1)
      have T4 : Hid (Tap w4 B ao tn tcap (j + 1 + 2 * (i + 1))) := by
        have e : j + 1 + 2 * (i + 1) = j + 1 + 2 * i + 1 + 1 := by omega
        rw [e]
        exact (T3.out.keep b4).grown hgr4 (fun e => by have := (O3.out.lt B e.symm).1; have := HBW.out; omega)
      have O4 : Hid (w4.ownsRow w.heap.size 35 2 (.slice a4 (i + 1) c4) (i + 1) (bkv (us ++ [((r2 : Int), (q : Int))]))) := by rw [bkv_append]; exact hown4
      have S4 : Hid (SmU (us ++ [((r2 : Int), (q : Int))])) := hS.out.snoc (by have := HR2.out; omega) (by have := HQ.out; omega)
      clear hown4 hgr4 b4 T3 G3 O3 hS
      go_roundw
      case rel => exact ⟨i + 1, a4, c4, _, by omega, by simp, rfl, T4.out, G4.out, O4.out, S4.out⟩
      case measure => simp [intOf]; omega
    · obtain rfl : i = k := by omega
      have hlen : us.length = i := by have := hO.out.1; rw [bkv_length] at this; omega
      have FIN : Hid (UsPost w B ao tn tcap j (.returned (.slice av i c)) wr) := ⟨av, c, us, _, by rw [hlen], by rw [hlen]; exact hO.out, by have := HKB.out; omega, by omega, hS.out, hG.out, by omega, hT.out⟩
      clear hlen hO hS hG hT
      go_wp2_with fail
      go_ret
      exact FIN.out
end Go.Proofs.Ytdcnkebcpaelpaa.T14
