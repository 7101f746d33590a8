import Derived.Test.YtkodfmpaeemaiaaDoorTape
import Derived.Test.YtkodfmpaeemaiaaDoorCls5
import Derived.Deep.RegionWith
/- A code of a tape, or a text that is nearly one. -/
namespace Go.Proofs.YtkodfmpaeemaiaaDoor.C6
open Go.RowKit Go.Sort

theorem RdV.gb {w w' : World} {B : Nat} {ao : Option Addr} {cap : Nat} {vs : List Value} (h : RdV w ao cap vs) (hb : 0 < vs.length → ∀ b o, ao = some ⟨b, o, none⟩ → b < B) (hB : B ≤ w.heap.size) (g : w.grownBy w' (some B)) : RdV w' ao cap vs := h.keep hb (gb_below g hB)
def CodePost (w : World) (B : Nat) (ao : Option Addr) (n cap i : Nat) (e : Ending) (w' : World) : Prop := ∃ s : ByteArray, e = .returned (.string s) ∧ s.size ≤ 14 ∧ w.grownBy w' (some B) ∧ ∃ j, i ≤ j ∧ j ≤ i + 6 ∧ Tap w' B ao n cap j
set_option maxHeartbeats 8000000 in
set_option maxRecDepth 100000 in
theorem code_v (B : Nat) (ao : Option Addr) (cap : Nat) (ts : List Int) (i : Nat) (w : World) (hb : Tap w B ao ts.length cap i) (ht : RdZ w ao cap ts) (htB : 0 < (intz ts).length → ∀ b o, ao = some ⟨b, o, none⟩ → b < B) (hi9 : i ≤ 900) :
    Calls Tryd.prog 12 #[.pointer (some ⟨B, 0, none⟩)] w (CodePost w B ao ts.length cap i) := by
  obtain ⟨i0, hi, hz0, hz1, hz2⟩ := info_parts infoInt
  have hBl := hb.lt
  have HB := Lib.hid hb
  have HT := Lib.hid ht
  have HTB := Lib.hid htB
  clear hb ht htB
  go_enter Tryd.func12, Tryd.ntmps12
  go_wp2_with fail
  refine (Next_v B ao cap ts i 8 _ HB.out HT.out (by omega) (by omega) (by omega) 8 rfl).mono ?_; rintro e w1 ⟨m, rfl, hm, g1, z1, t1⟩
  have hT1 := Lib.hid t1
  have hG1 := Lib.hid g1
  have hR1 := Lib.hid (HT.out.gb HTB.out (Nat.le_of_lt hBl) g1)
  have hB1 := t1.lt
  clear t1 g1 z1
  by_cases hm0 : m = 0
  · subst hm0
    have hgA := World.grownBy_alloc w1 (.cells (#[.string ⟨#[]⟩, .string ⟨#[49]⟩, .string ⟨#[48, 49, 46]⟩, .string ⟨#[46, 49]⟩, .string ⟨#[48, 49, 46, 48]⟩, .string ⟨#[48, 49, 46, 48, 49]⟩, .string ⟨#[48, 48, 49]⟩, .string ⟨#[48, 49, 46, 49, 48, 48]⟩, .string ⟨#[48, 48]⟩, .string ⟨#[97]⟩, .string ⟨#[48, 49, 46, 49, 46, 49, 46, 49, 46, 49, 46, 49]⟩, .string ⟨#[48, 49, 32]⟩] : Array Value) 9) (some B)
    have hAT : ∀ r, r < 12 → ∃ u : ByteArray, (#[.string ⟨#[]⟩, .string ⟨#[49]⟩, .string ⟨#[48, 49, 46]⟩, .string ⟨#[46, 49]⟩, .string ⟨#[48, 49, 46, 48]⟩, .string ⟨#[48, 49, 46, 48, 49]⟩, .string ⟨#[48, 48, 49]⟩, .string ⟨#[48, 49, 46, 49, 48, 48]⟩, .string ⟨#[48, 48]⟩, .string ⟨#[97]⟩, .string ⟨#[48, 49, 46, 49, 46, 49, 46, 49, 46, 49, 46, 49]⟩, .string ⟨#[48, 49, 32]⟩] : Array Value)[r]? = some (Value.string u) ∧ u.size ≤ 14 := by
      intro r hr
      have : r = 0 ∨ r = 1 ∨ r = 2 ∨ r = 3 ∨ r = 4 ∨ r = 5 ∨ r = 6 ∨ r = 7 ∨ r = 8 ∨ r = 9 ∨ r = 10 ∨ r = 11 := by omega
      rcases this with rfl | rfl | rfl | rfl | rfl | rfl | rfl | rfl | rfl | rfl | rfl | rfl <;> exact ⟨_, rfl, by decide⟩
    have hsz : (w1.alloc (.cells (#[.string ⟨#[]⟩, .string ⟨#[49]⟩, .string ⟨#[48, 49, 46]⟩, .string ⟨#[46, 49]⟩, .string ⟨#[48, 49, 46, 48]⟩, .string ⟨#[48, 49, 46, 48, 49]⟩, .string ⟨#[48, 48, 49]⟩, .string ⟨#[48, 49, 46, 49, 48, 48]⟩, .string ⟨#[48, 48]⟩, .string ⟨#[97]⟩, .string ⟨#[48, 49, 46, 49, 46, 49, 46, 49, 46, 49, 46, 49]⟩, .string ⟨#[48, 49, 32]⟩] : Array Value) 9)).heap.size = w1.heap.size + 1 := by simp
    have hcell : ∀ r v, (#[.string ⟨#[]⟩, .string ⟨#[49]⟩, .string ⟨#[48, 49, 46]⟩, .string ⟨#[46, 49]⟩, .string ⟨#[48, 49, 46, 48]⟩, .string ⟨#[48, 49, 46, 48, 49]⟩, .string ⟨#[48, 48, 49]⟩, .string ⟨#[48, 49, 46, 49, 48, 48]⟩, .string ⟨#[48, 48]⟩, .string ⟨#[97]⟩, .string ⟨#[48, 49, 46, 49, 46, 49, 46, 49, 46, 49, 46, 49]⟩, .string ⟨#[48, 49, 32]⟩] : Array Value)[r]? = some v → (w1.alloc (.cells (#[.string ⟨#[]⟩, .string ⟨#[49]⟩, .string ⟨#[48, 49, 46]⟩, .string ⟨#[46, 49]⟩, .string ⟨#[48, 49, 46, 48]⟩, .string ⟨#[48, 49, 46, 48, 49]⟩, .string ⟨#[48, 48, 49]⟩, .string ⟨#[48, 49, 46, 49, 48, 48]⟩, .string ⟨#[48, 48]⟩, .string ⟨#[97]⟩, .string ⟨#[48, 49, 46, 49, 46, 49, 46, 49, 46, 49, 46, 49]⟩, .string ⟨#[48, 49, 32]⟩] : Array Value) 9)).cell? ⟨w1.heap.size, r, none⟩ = some v := fun r v h => by rw [World.cell?_alloc_mark w1 _ _ (0, 0) r]; exact h
    have hT2 := Lib.hid (hT1.out.alloc (.cells (#[.string ⟨#[]⟩, .string ⟨#[49]⟩, .string ⟨#[48, 49, 46]⟩, .string ⟨#[46, 49]⟩, .string ⟨#[48, 49, 46, 48]⟩, .string ⟨#[48, 49, 46, 48, 49]⟩, .string ⟨#[48, 48, 49]⟩, .string ⟨#[48, 49, 46, 49, 48, 48]⟩, .string ⟨#[48, 48]⟩, .string ⟨#[97]⟩, .string ⟨#[48, 49, 46, 49, 46, 49, 46, 49, 46, 49, 46, 49]⟩, .string ⟨#[48, 49, 32]⟩] : Array Value) 9))
    have hR2 := Lib.hid (hR1.out.gb HTB.out (Nat.le_of_lt hB1) hgA)
    have HC := Lib.hid hcell
    have HA := Lib.hid hgA
    have HAT := Lib.hid hAT
    obtain ⟨W2, hW2⟩ : ∃ W2, W2 = w1.alloc (.cells (#[.string ⟨#[]⟩, .string ⟨#[49]⟩, .string ⟨#[48, 49, 46]⟩, .string ⟨#[46, 49]⟩, .string ⟨#[48, 49, 46, 48]⟩, .string ⟨#[48, 49, 46, 48, 49]⟩, .string ⟨#[48, 48, 49]⟩, .string ⟨#[48, 49, 46, 49, 48, 48]⟩, .string ⟨#[48, 48]⟩, .string ⟨#[97]⟩, .string ⟨#[48, 49, 46, 49, 46, 49, 46, 49, 46, 49, 46, 49]⟩, .string ⟨#[48, 49, 32]⟩] : Array Value) 9) := ⟨_, rfl⟩
    unfold Hid at hT2 hR2 HC HA
    rw [← hW2] at hT2 hR2 HC HA hsz
    have hT3 := Lib.hid hT2
    have hR3 := Lib.hid hR2
    have HC3 := Lib.hid HC
    have HA3 := Lib.hid HA
    have HS := Lib.hid hsz
    clear hT2 hR2 HC HA hsz hcell hgA hAT
    go_wp2_with fail
    rw [← hW2]
    clear hW2
    refine (Next_v B ao cap ts (i + 1) 12 _ hT3.out hR3.out (by omega) (by omega) (by omega) 12 rfl).mono ?_; rintro e w2 ⟨r, rfl, hr, g2, z2, t2⟩
    obtain ⟨u, hu, hus⟩ := HAT.out r hr
    have hc2 : w2.cell? ⟨w1.heap.size, r, none⟩ = some (.string u) := g2.cell (HC3.out r _ hu) (by simp; omega)
    have hG := Lib.hid (gb_trans (gb_trans hG1.out HA3.out) g2)
    have hTT := Lib.hid t2
    have hr12 : (r : Int) < 12 := by omega
    clear hu g2 z2 t2
    go_wp2_with fail
    go_ret
    exact ⟨u, rfl, hus, hG.out, i + 2, by omega, by omega, hTT.out⟩
  · have hm0' : ((m : Int) == 0) = false := beq_eq_false_iff_ne.2 (by omega)
    go_wp2_with fail
    refine (Next_v B ao cap ts (i + 1) 4 _ hT1.out hR1.out (by omega) (by omega) (by omega) 4 rfl).mono ?_; rintro e w2 ⟨r, rfl, hr, g2, z2, t2⟩
    have hT2 := Lib.hid t2
    have hG2 := Lib.hid (gb_trans hG1.out g2)
    have hR2 := Lib.hid (hR1.out.gb HTB.out (Nat.le_of_lt hB1) g2)
    have hB2 := t2.lt
    have hsw : w.heap.size ≤ w2.heap.size := hG2.out.size
    clear t2 g2 z2 hm0
    obtain ⟨c, hc⟩ : ∃ c, c = 1 + r := ⟨_, rfl⟩
    have hcI : 1 + (r : Int) = (c : Int) := by omega
    have hc4 : c ≤ 4 := by omega
    have HCI := Lib.hid hcI
    have hr4 : (r : Int) < 4 := by omega
    clear hcI hc
    go_wp2_with fail
    rw [HCI.out]
    go_loopw [3, 17] (fun s3 s17 wr => ∃ (k : Nat) (zs : List Int) (v3 : Value), k ≤ c ∧ s17 = .int .i64 (k : Int) ∧ v3 = s3 ∧ Hid (zs.length = k) ∧ Hid (wr.ownsRow w2.heap.size 3 1 v3 k (intz zs)) ∧ Hid (w2.grownBy wr (some B)) ∧ Hid (Tap wr B ao ts.length cap (i + 2 + k))) (fun _ s17 _ => c - (intOf s17).toNat)
    case atStart => exact ⟨0, [], _, by omega, rfl, rfl, rfl, World.ownsRow_nil _ _ _ _, gb_drewN _ 0 _, hT2.out⟩
    case round =>
      obtain ⟨k, zs, v3, hkc, rfl, rfl, hzl, hown, hgr, htap⟩ := hrel
      by_cases hlt : k < c
      · have hlt2 : (k : Int) < (c : Int) := by omega
        have hszr : w2.heap.size ≤ wr.heap.size := hgr.out.size
        have C4 : ∃ C : Array Value, C = #[.int .i64 1, .int .i64 2, .int .i64 10, .int .i64 99] := ⟨_, rfl⟩
        obtain ⟨C, hC⟩ := C4
        have hAT : ∀ r, r < 4 → ∃ z : Int, C[r]? = some (Value.int .i64 z) := by
          intro r hr
          rw [hC]
          have : r = 0 ∨ r = 1 ∨ r = 2 ∨ r = 3 := by omega
          rcases this with rfl | rfl | rfl | rfl <;> exact ⟨_, rfl⟩
        have HAT := Lib.hid hAT
        have hT3 := Lib.hid (htap.out.alloc (.cells C 3))
        have hgA := Lib.hid (World.grownBy_alloc wr (.cells C 3) (some B))
        have hR3 := Lib.hid ((hR2.out.gb HTB.out (Nat.le_of_lt hB2) hgr.out).gb HTB.out (by omega) hgA.out)
        have hO3 := Lib.hid (hown.out.alloc (.cells C 3))
        have hcell : Hid (∀ r v, C[r]? = some v → (wr.alloc (.cells C 3)).cell? ⟨wr.heap.size, r, none⟩ = some v) := fun r v h => by rw [World.cell?_alloc_mark wr _ _ (0, 0) r]; exact h
        have HSA : Hid ((wr.alloc (.cells C 3)).heap.size = wr.heap.size + 1) := by unfold Hid; simp
        obtain ⟨W3, hW3⟩ : ∃ W3, W3 = wr.alloc (.cells C 3) := ⟨_, rfl⟩
        rw [← hW3] at hT3 hgA hR3 hO3 hcell HSA
        rw [hC] at hW3
        clear hAT
        go_wp2_with fail
        rw [← hW3]
        clear hW3
        refine (Next_v B ao cap ts (i + 2 + k) 4 _ hT3.out hR3.out (by omega) (by omega) (by omega) 4 rfl).mono ?_; rintro e w4 ⟨q, rfl, hq, g4, z4, t4⟩
        obtain ⟨z, hz⟩ := HAT.out q hq
        have hc2 : w4.cell? ⟨wr.heap.size, q, none⟩ = some (.int .i64 z) := g4.cell (hcell.out q _ hz) (by simp; omega)
        have HG4 := Lib.hid (gb_trans (gb_trans hgr.out hgA.out) g4)
        have HT4 := Lib.hid t4
        have HO := Lib.hid (hO3.out.kept g4 (row_block hO3.out (by omega)))
        have hsz4 : w2.heap.size ≤ w4.heap.size := HG4.out.size
        have hq4 : (q : Int) < 4 := by omega
        have hrows : ∀ k, v3.ownBlock = some k → w2.heap.size ≤ k := fun k e => (HO.out.lt k e).1
        clear hz g4 z4 t4
        go_wp2_with (at_builtin; refine wpList_append_own _ rfl _ _ 25 rfl w2.heap.size 3 i0 (.int .i64 0) 1 8 Tryd.underlying25 hi hz0 hz1 hz2 rfl (by omega) _ _ _ rfl (HO.out.alloc _) ⟨w4.heap.size, 0, none⟩ 1 1 [.int .i64 z] rfl rfl (one_cell _ _ _) (by intro u hu; simp at hu; rcases hu with rfl; rfl) (by unfold maxLen; omega) (by omega) (by simp; omega) ?_; intro v5 w5 hown5 hgr5 _)
        have hne5 : ∀ b, b < w2.heap.size → some b ≠ v3.ownBlock := fun b hb e => by have := hrows b e.symm; omega
        have HO5 : Hid (w5.ownsRow w2.heap.size 3 1 v5 (k + 1) (intz (zs ++ [z]))) := by unfold Hid; rw [show intz (zs ++ [z]) = intz zs ++ [.int .i64 z] by simp [intz]]; exact hown5
        have HL5 : Hid ((zs ++ [z]).length = k + 1) := by unfold Hid; rw [List.length_append, hzl.out]; rfl
        have HT5 : Hid (Tap w5 B ao ts.length cap (i + 2 + (k + 1))) := Tap.grown (HT4.out.alloc _) hgr5 (hne5 B hB2)
        have HG5 : Hid (w2.grownBy w5 (some B)) := ⟨hgr5.os.trans HG4.out.os, hgr5.tape.trans HG4.out.tape, hgr5.output.trans HG4.out.output, Nat.le_trans HG4.out.size (Nat.le_trans (by simp) hgr5.size), fun b hb hne => by
          have h1 := hgr5.block b (by simp; omega) (hne5 b hb)
          have h2 := (World.grownBy_alloc w4 (.cells #[.int .i64 z] 3) none).block b (by omega) (by simp)
          exact h1.trans (h2.trans (HG4.out.block b hb hne))⟩
        clear hown5 hgr5
        go_wp2_with fail
        go_roundw
        case rel => exact ⟨k + 1, _, _, by omega, by go_num, rfl, HL5, HO5, HG5, HT5⟩
        case measure => simp [intOf]; omega
      · obtain rfl : k = c := by omega
        have hlt2 : ¬ (k : Int) < (k : Int) := by omega
        obtain ⟨ao3, cap3, e3, hrd3, _⟩ := RdV.of_row hown.out
        rw [intz_length] at e3
        subst e3
        have HF := Lib.hid (rFormat_v ao3 cap3 zs wr hrd3)
        have hfm : Hid (∀ e, FmtPost zs e → ∃ (T : ByteArray) (x : Int), e = .returned (.tuple #[.string T, .int .i64 x]) ∧ T.size ≤ 14) := by
          intro e he
          rcases he with ⟨p, hp, _, e2⟩ | ⟨_, e2⟩
          · exact ⟨_, _, e2, by rw [txt_size]; exact (cod_len hp).2⟩
          · exact ⟨_, _, e2, by decide⟩
        have HTP := Lib.hid htap.out
        have HG := Lib.hid (gb_trans hG2.out hgr.out)
        clear hrd3 hown
        go_wp2_with fail
        refine HF.out.mono ?_; rintro e w6 ⟨hp, hb6⟩
        obtain ⟨T, x, rfl, hTs⟩ := hfm.out e hp
        have HG6 := Lib.hid (gb_trans HG.out (below_gb hb6 (some B)))
        have HT6 := Lib.hid (HTP.out.keep hb6)
        clear hp hb6
        go_wp2_with fail
        go_ret
        exact ⟨T, rfl, hTs, HG6.out, i + 2 + k, by omega, by omega, HT6.out⟩
end Go.Proofs.YtkodfmpaeemaiaaDoor.C6
