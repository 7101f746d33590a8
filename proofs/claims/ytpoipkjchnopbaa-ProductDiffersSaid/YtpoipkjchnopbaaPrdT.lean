import Derived.Test.YtpoipkjchnopbaaPrdQ
import Derived.Test.YtpoipkjchnopbaaPrd9
/- Layer 9: the reference's holds; SameStrings of equal lists. -/
namespace Go.Proofs.Ytpoipkjchnopbaa.P9
open Go.RowKit Go.Sort C6

theorem bytes_eq (a b : ByteArray) : (a.toList == b.toList) = true ↔ a = b := by
  simp only [beq_iff_eq, ByteArray.toList_eq]
  exact ⟨fun h => C6.ba_ext h, fun h => by rw [h]⟩
theorem bytes_ne {a b : ByteArray} (h : a ≠ b) : (a.toList == b.toList) = false := by
  cases he : (a.toList == b.toList)
  · rfl
  · exact absurd ((bytes_eq a b).1 he) h

set_option maxHeartbeats 8000000 in
set_option maxRecDepth 100000 in
theorem holds_v (bo : Option Addr) (cb : Nat) (o : List Atr) (x1 x2 : ByteArray) (w : World) (k : RdA w bo cb o) (ho : o.length ≤ 100000) :
    Calls Try.prog 31 #[.slice bo o.length cb, .agg #[.string x1, .string x2]] w fun e w' => e = .returned (.bool (inB (x1, x2) o)) ∧ Below w.heap.size w w' := by
  obtain ⟨m, hm⟩ : ∃ m, m = o.length := ⟨_, rfl⟩
  obtain ⟨W1, hW1⟩ : ∃ W, W = w.alloc (.cells #[.string x1, .string x2] 42) := ⟨_, rfl⟩
  have b1 : Below w.heap.size w W1 := by rw [hW1]; exact below_new _ _
  have x4 : W1.heap[w.heap.size]? = some (.cells #[.string x1, .string x2] 42 (0, 0)) := by rw [hW1]; exact heap_alloc_new _ _
  have HK := Lib.hid (k.below b1)
  have HM := Lib.hid hm
  have HX := Lib.hid x4
  have HB := Lib.hid b1
  have hgl : w.heap.size < W1.heap.size := by rw [hW1]; simp
  obtain ⟨hb1, hb2⟩ : m ≤ cb ∧ cb ≤ 9223372036854775807 := by have := k.1; have := k.2.1; omega
  have hm1 : m ≤ 100000 := by omega
  rw [← hm]
  clear k ho hm b1 x4
  go_enter Try.func31, Try.ntmps31
  go_wp2_with fail
  try rw [← hW1]
  clear hW1
  go_loopw [9] (fun s9 wr => ∃ i : Nat, i ≤ m ∧ s9 = .int .i64 (i : Int) ∧ Hid ((x1, x2) ∉ o.take i) ∧ Hid (Below W1.heap.size W1 wr)) (fun s9 _ => m - (intOf s9).toNat)
  case atStart => exact ⟨0, by omega, rfl, by unfold Hid; simp, Below.refl _ _⟩
  case round =>
    obtain ⟨i, him, rfl, hno, hbl⟩ := hrel
    by_cases hlt : i < m
    · have hltI : (i : Int) < (m : Int) := by omega
      obtain ⟨b, o', rfl, hcs⟩ := (HK.out.below hbl.out).at (i := i) (by have := HM.out; omega)
      obtain ⟨c0, c1⟩ := hcs i (by have := HM.out; omega)
      have HT : Hid (o.take (i + 1) = o.take i ++ [o.getD i e2]) := take_snoc (by have := HM.out; omega)
      have hmem : o.getD i e2 ∈ o := by have : i < o.length := by have := HM.out; omega
                                        simp [List.getD, this]
      obtain ⟨x, hx⟩ : ∃ x, x = o.getD i e2 := ⟨_, rfl⟩
      rw [← hx] at c0 c1 HT hmem
      obtain ⟨y1, y2⟩ := x
      have hic : i < cb := by omega
      have x5 : wr.heap[w.heap.size]? = some (.cells #[.string x1, .string x2] 42 (0, 0)) := (hbl.out.block _ hgl).trans HX.out
      have p0 : wr.cell? ⟨w.heap.size, 0, none⟩ = some (.string x1) := by simp [World.cell?, x5]
      have p1 : wr.cell? ⟨w.heap.size, 1, none⟩ = some (.string x2) := by simp [World.cell?, x5]
      have hwl : w.heap.size < wr.heap.size := Nat.lt_of_lt_of_le hgl hbl.out.size
      have BF : Hid (Below w.heap.size w (wr.alloc (.cells #[.string y1, .string y2] 42))) := keep (keep HB.out hbl.out) (below_new _ _)
      have BL : Hid (Below W1.heap.size W1 (wr.alloc (.cells #[.string y1, .string y2] 42))) := keep hbl.out (below_new _ _)
      clear hx hcs x5
      by_cases h1 : x1 = y1
      · by_cases h2 : x2 = y2
        · subst h1 h2
          have e0 := eqs x1
          have e1 := eqs x2
          have HIN : Hid (inB (x1, x2) o = true) := inB_pos hmem
          clear hmem HT hno
          go_wp2_with fail
          go_ret
          exact ⟨by rw [HIN.out]; rfl, BF.out⟩
        · have e0 := (bytes_eq x1 y1).2 h1
          have e1 := bytes_ne h2
          have hno2 : Hid ((x1, x2) ∉ o.take (i + 1)) := by
            unfold Hid; rw [HT.out]; intro hc
            rcases List.mem_append.1 hc with hc | hc
            · exact hno.out hc
            · simp at hc; exact h2 hc.2
          clear h1 h2 hno HT hmem
          go_wp2_with fail
          go_roundw
          case rel => exact ⟨i + 1, by omega, by go_num, hno2, BL⟩
          case measure => first | (simp [intOf]; done) | (simp [intOf]; omega)
      · have e0 := bytes_ne h1
        have hno2 : Hid ((x1, x2) ∉ o.take (i + 1)) := by
          unfold Hid; rw [HT.out]; intro hc
          rcases List.mem_append.1 hc with hc | hc
          · exact hno.out hc
          · simp at hc; exact h1 hc.1
        clear h1 hno HT hmem
        go_wp2_with fail
        go_roundw
        case rel => exact ⟨i + 1, by omega, by go_num, hno2, BL⟩
        case measure => first | (simp [intOf]; done) | (simp [intOf]; omega)
    · obtain rfl : i = m := by omega
      have hni : ¬ (i : Int) < (i : Int) := by omega
      have hno' := hno.out
      rw [HM.out, List.take_length] at hno'
      have HIN : Hid (inB (x1, x2) o = false) := inB_neg hno'
      have BF : Hid (Below w.heap.size w wr) := keep HB.out hbl.out
      clear hno hno'
      go_wp2_with fail
      go_ret
      exact ⟨by rw [HIN.out]; rfl, BF.out⟩

set_option maxHeartbeats 8000000 in
set_option maxRecDepth 100000 in
theorem SameStr_v (ao bo : Option Addr) (ca cb : Nat) (l : List ByteArray) (w : World) (h : RdS w ao ca l) (k : RdS w bo cb l) (hl : l.length ≤ 100000) :
    Calls Try.prog 16 #[.slice ao l.length ca, .slice bo l.length cb] w fun e w' => e = .returned (.bool true) ∧ Below w.heap.size w w' := by
  obtain ⟨n, hn⟩ : ∃ n, n = l.length := ⟨_, rfl⟩
  have HR := Lib.hid h
  have HK := Lib.hid k
  have HN := Lib.hid hn
  obtain ⟨ha1, ha2⟩ : n ≤ ca ∧ ca ≤ 9223372036854775807 := by have := h.1; rw [strs_length] at this; have := h.2.1; omega
  obtain ⟨hb1, hb2⟩ : n ≤ cb ∧ cb ≤ 9223372036854775807 := by have := k.1; rw [strs_length] at this; have := k.2.1; omega
  have hn1 : n ≤ 100000 := by omega
  rw [← hn]
  clear h k hl hn
  go_enter Try.func16, Try.ntmps16
  go_wp2_with fail
  go_loopw [13] (fun s13 wr => ∃ i : Nat, i ≤ n ∧ s13 = .int .i64 (i : Int) ∧ Hid (Below w.heap.size w wr)) (fun s13 _ => n - (intOf s13).toNat)
  case atStart => exact ⟨0, by omega, rfl, Below.refl _ _⟩
  case round =>
    obtain ⟨i, hin, rfl, hbl⟩ := hrel
    by_cases hlt : i < n
    · have hltI : (i : Int) < (n : Int) := by omega
      obtain ⟨b, o, rfl, c0⟩ := RdV.atS (HR.out.below hbl.out) (i := i) (by have := HN.out; omega)
      obtain ⟨b', o', rfl, c1⟩ := RdV.atS (HK.out.below hbl.out) (i := i) (by have := HN.out; omega)
      obtain ⟨x, hx⟩ : ∃ x, x = l.getD i ByteArray.empty := ⟨_, rfl⟩
      rw [← hx] at c0 c1
      have e0 := eqs x
      have hia : i < ca := by omega
      have hib : i < cb := by omega
      clear hx
      go_wp2_with fail
      go_quiet (fail)
      all_goals
        go_wp2_with fail
        go_roundw
        case rel => exact ⟨i + 1, by omega, by go_num, drewN_below' hbl.out _⟩
        case measure => first | (simp [intOf]; done) | (simp [intOf]; omega)
    · obtain rfl : i = n := by omega
      have hni : ¬ (i : Int) < (i : Int) := by omega
      go_wp2_with fail
      go_ret
      exact ⟨rfl, hbl.out⟩
end Go.Proofs.Ytpoipkjchnopbaa.P9
