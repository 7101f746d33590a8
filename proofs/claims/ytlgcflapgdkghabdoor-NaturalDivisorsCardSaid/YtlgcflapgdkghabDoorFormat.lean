/- Format writes the decimal digits of the number. -/
import Derived.Test.YtlgcflapgdkghabDoorDigits
namespace Go.Proofs.YtlgcflapgdkghabDoor
open Go.RowKit

theorem BuilderF_below {T e : TypeId} {B b : Nat} {bs : List Value} {w w' : World} (h : Lib.IsBuilderF T e B b bs w) (hb : Below w.heap.size w w') : Lib.IsBuilderF T e B b bs w' := by
  have aux : ∀ p, Lib.BuilderAtF T e B b p bs w → Lib.BuilderAtF T e B b p bs w' := by
    rintro p ⟨h1, v, h2, h3, h4⟩
    have hlt : b < w.heap.size := (Array.getElem?_eq_some_iff.1 h2).1
    exact ⟨h1, v, (hb.block b hlt).trans h2, h3.kept (row := none) (grownBy_below hb (Nat.le_refl _) none) (by cases hv : v.ownBlock <;> simp), h4⟩
  rcases h with h | h
  · exact .inl (aux _ h)
  · exact .inr (aux _ h)
theorem repeat_zero (c : Nat) : Lib.repeatL [48] c = List.replicate c 48 := by
  induction c with
  | zero => rfl
  | succ c ih => rw [Nat.add_comm, Lib.repeatL_add, Lib.repeatL_one, ih, Nat.add_comm, List.replicate_succ]; rfl
theorem ret_str {a b : List UInt8} (h : a = b) : Ending.returned (.string ⟨a.toArray⟩) = .returned (.string ⟨b.toArray⟩) := by rw [h]

theorem repeat_any (c : Nat) (w : World) (hc : c ≤ 9) (n : Int) (hn : n = c) :
    Calls Tryd.prog 40 #[.string ⟨#[48]⟩, .int .i64 n] w fun e w' => e = .returned (.string ⟨(List.replicate c 48).toArray⟩) ∧ Below w.heap.size w w' := by
  subst hn
  have h := Tryd.strings_Repeat ⟨#[48]⟩ c w (by omega) (by show 1 * c ≤ _; omega)
  rw [show (ByteArray.mk #[48]).data.toList = [48] from rfl, repeat_zero] at h
  exact h

set_option maxHeartbeats 1000000 in
set_option maxRecDepth 100000 in
theorem Format_any (ao : Option Addr) (cap : Nat) (xs : List Nat) (w : World) (h : Rd w ao cap xs) (hb : xs.length ≤ 1099511627776) (htab : Tab w) :
    Calls Tryd.prog 28 #[.slice ao xs.length cap] w fun e w' => e = .returned (.string ⟨(Lib.decDigits (val xs)).toArray⟩) ∧ Below w.heap.size w w' := by
  obtain ⟨N, hN⟩ : ∃ N, N = val xs := ⟨_, rfl⟩
  have hlenN : (gp N).length ≤ 2 * xs.length := gp_length _ _ (by rw [hN]; exact val_lt h.lims)
  have hlg := lims_gp N
  have hdec0 : Hid (N = 0 → Lib.decDigits N = [48]) := fun e => by rw [e]; exact dec_small (by omega)
  obtain ⟨m, hm⟩ : ∃ m, m = (gp N).length := ⟨_, rfl⟩
  have hgp0 : Hid (m = 0 → N = 0) := fun e => by
    rcases Nat.eq_zero_or_pos N with k | k
    · exact k
    · rw [hm, gp_pos N k] at e; simp at e
  have hctr := decimalGroups_any ao cap xs w h hb
  rw [← hN] at hctr ⊢
  rw [← hm] at hctr hlenN
  have hmh := Lib.hid hm
  clear hN hm
  by_cases hm0 : m = 0
  · have hz := Lib.hid (hdec0.out (hgp0.out hm0))
    subst hm0
    go_enter Tryd.func28, Tryd.ntmps28
    go_wp2_with fail
    refine hctr.mono ?_
    rintro e w1 ⟨ao1, cap1, rfl, hf1, hb1⟩
    go_wp2
    go_ret
    exact ⟨ret_str hz.out.symm, hb1⟩
  · have hmp : 0 < m := by omega
    have hd : ((m : Int) == 0) = false := by simp; omega
    clear hm0
    go_enter Tryd.func28, Tryd.ntmps28
    go_wp2_with fail
    refine hctr.mono ?_
    rintro e w1 ⟨ao1, cap1, rfl, hf1, hb1⟩
    have htab1 := htab.below hb1
    have hsz1 := hb1.size
    have hnew := Lib.IsBuilderF.of (Lib.fresh_isBuilder 60 5 w1)
    have hbel0 : Below w1.heap.size w1 (w1.alloc (.cells #[.pointer none, .slice none 0 0] 60)) := (Below.refl _ _).alloc (Nat.le_refl _) _
    go_wp2
    go_loopw [14] (fun s14 wr => ∃ i : Nat, i ≤ m ∧ s14 = .int .i64 i ∧ Lib.IsBuilderF 60 5 w1.heap.size w1.heap.size (Lib.byteCells (txt N i)) wr ∧ (Lib.byteCells (txt N i)).length ≤ 9 * i ∧ Below w1.heap.size w1 wr) (fun s14 _ => m - (intOf s14).toNat)
    case atStart => exact ⟨0, Nat.zero_le _, rfl, hnew, Nat.le_refl _, hbel0⟩
    case round =>
      obtain ⟨i, hi, rfl, hbd, htl, hbl⟩ := hrel
      have hsz := hbl.size
      have htab2 := htab1.below hbl
      by_cases hlt : i < m
      · have hrd := hf1.rd.below hbl
        obtain ⟨b, o, rfl, hc⟩ := hrd.at (by rw [← hmh.out]; omega)
        have hci := hc (m - 1 - i) (by rw [← hmh.out]; omega)
        obtain ⟨g, hg⟩ : ∃ g, g = lm (gp N) (m - 1 - i) := ⟨_, rfl⟩
        rw [← hg] at hci
        have hgb : g < 1000000000 := by
          rw [hg, lm_get _ _ (by rw [← hmh.out]; omega)]; exact hlg _ (List.getElem_mem _)
        have hdl := dec_len_le 8 g (by omega)
        have G := Lib.hid hg
        clear hg hc
        by_cases hi0 : i = 0
        · subst hi0
          rw [Nat.sub_zero] at hci
          have ht := Lib.hid ((txt_one N 0 rfl (by rw [← hmh.out]; omega)).trans (by rw [← hmh.out, ← G.out]))
          go_wp2_with fail
          refine (FormatUint_any g (by omega) _ htab2).mono ?_
          rintro e w2 ⟨rfl, hb2⟩
          have hbd2 := BuilderF_below hbd hb2
          go_wp2_with fail
          refine (WriteString_any w1.heap.size w1.heap.size _ _ _ hbd2 (by simp [ByteArray.size]; omega) (by have := hb2.size; omega)).mono ?_
          rintro e w3 ⟨rfl, hbd3, hb3⟩
          go_wp2_with fail
          have hnew3 : Lib.byteCells (txt N 0) ++ Lib.strCells ⟨(Lib.decDigits g).toArray⟩ = Lib.byteCells (txt N (0 + 1)) := by rw [ht.out]; rfl
          rw [hnew3] at hbd3
          go_roundw
          case rel => exact ⟨0 + 1, by omega, by go_num, hbd3, by rw [ht.out]; simpa [Lib.byteCells] using hdl, (hbl.trans (hb2.mono (by omega))).trans hb3⟩
          case measure => simp [intOf]; omega
        · have hip : 0 < i := by omega
          have ht := Lib.hid ((txt_succ N i hip (by rw [← hmh.out]; omega)).trans (by rw [← hmh.out, ← G.out]))
          go_wp2_with fail
          refine (FormatUint_any g (by omega) _ htab2).mono ?_
          rintro e w2 ⟨rfl, hb2⟩
          have hbd2 := BuilderF_below hbd hb2
          have hs2 := hb2.size
          go_wp2_with fail
          refine (repeat_any (9 - (Lib.decDigits g).length) _ (by omega) _ (by omega)).mono ?_
          rintro e w3 ⟨rfl, hb3⟩
          have hbd3 := BuilderF_below hbd2 hb3
          have hs3 := hb3.size
          go_wp2_with fail
          refine (WriteString_any w1.heap.size w1.heap.size _ _ _ hbd3 (by simp [ByteArray.size]; omega) (by omega)).mono ?_
          rintro e w4 ⟨rfl, hbd4, hb4⟩
          have hs4 := hb4.size
          go_wp2_with fail
          refine (WriteString_any w1.heap.size w1.heap.size _ _ _ hbd4 (by simp [ByteArray.size, Lib.strCells]; omega) (by omega)).mono ?_
          rintro e w5 ⟨rfl, hbd5, hb5⟩
          go_wp2_with fail
          have hnew5 : Lib.byteCells (txt N i) ++ Lib.strCells ⟨Array.replicate (9 - (Lib.decDigits g).length) (48 : UInt8)⟩ ++ Lib.strCells ⟨(Lib.decDigits g).toArray⟩ = Lib.byteCells (txt N (i + 1)) := by
            rw [ht.out, List.append_assoc]; simp [Lib.byteCells, Lib.strCells]
          rw [hnew5] at hbd5
          go_roundw
          case rel => exact ⟨i + 1, by omega, by go_num, hbd5, by rw [← hnew5]; simp [Lib.strCells]; omega, (((hbl.trans (hb2.mono (by omega))).trans (hb3.mono (by omega))).trans hb4).trans hb5⟩
          case measure => simp [intOf]; omega
      · obtain rfl : i = m := by omega
        have ht : Hid (txt N i = Lib.decDigits N) := by
          show _ = _
          rw [hmh.out]; exact txt_end N (by rw [← hmh.out]; omega)
        go_wp2_with fail
        refine (Tryd.Builder_String_any_f w1.heap.size w1.heap.size (txt N i) _ hbd hsz).mono ?_
        rintro e w2 ⟨rfl, _, hb2⟩
        go_wp2_with fail
        go_ret
        exact ⟨ret_str ht.out, hb1.trans ((hbl.trans hb2).mono hsz1)⟩
end Go.Proofs.YtlgcflapgdkghabDoor
