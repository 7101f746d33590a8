import Derived.Test.YtpoipkjchnopbaaPrd4
import Derived.Test.YtpoipkjchnopbaaPrdK
import Derived.Maps.AppendAt
/- Layer 9: Key of the code and of the reference. -/
namespace Go.Proofs.Ytpoipkjchnopbaa.P9
open Go.RowKit Go.Sort C6

theorem field4_v (p : Pd) (a : Option Addr) (n c : Nat) (w : World) : (Instr.field 26 (.agg #[.string p.id, .string p.co, .string p.br, .int .i64 p.d, .int .i64 p.c, .int .i64 p.a, .slice a n c]) 4).run Try.prog w = .ok (.slice a n c) w := by kernel_rfl
theorem isort_mem {l : List Atr} {x : Atr} : x ∈ isort l ↔ x ∈ l := (isort_perm l).mem_iff
/-- sizes of a product's strings -/
structure Sz (p : Pd) (l : List Atr) : Prop where
  co : p.co.size ≤ 100
  br : p.br.size ≤ 100
  at1 : ∀ x ∈ l, x.1.size ≤ 100 ∧ x.2.size ≤ 100
def keyB (p : Pd) (l : List Atr) : ByteArray := ⟨(keyL p.co.data.toList p.br.data.toList (isort l)).toArray⟩
def kvB (x : Atr) : ByteArray := x.1 ++ ⟨#[61]⟩ ++ x.2
theorem kvB_list (x : Atr) : (kvB x).data.toList = kv x := by simp [kvB, kv]
theorem app_list (a b : ByteArray) : (a ++ b).data.toList = a.data.toList ++ b.data.toList := by simp

set_option maxHeartbeats 8000000 in
set_option maxRecDepth 100000 in
theorem rKey_v (p : Pd) (ao : Option Addr) (cap : Nat) (l : List Atr) (w : World) (h : RdA w ao cap l) (hl : l.length ≤ 19) (hs : Sz p l) :
    Calls Try.prog 12 #[.agg #[.string p.id, .string p.co, .string p.br, .int .i64 p.d, .int .i64 p.c, .int .i64 p.a, .slice ao l.length cap]] w fun e w' => e = .returned (.string (keyB p l)) ∧ Below w.heap.size w w' := by
  obtain ⟨n, hn⟩ : ∃ n, n = l.length := ⟨_, rfl⟩
  obtain ⟨W2, hW2⟩ : ∃ W, W = w.alloc (.cells #[.string p.id, .string p.co, .string p.br, .int .i64 p.d, .int .i64 p.c, .int .i64 p.a, .slice ao n cap] 26) := ⟨_, rfl⟩
  have B2 : Below w.heap.size w W2 := by rw [hW2]; exact below_new _ _
  have CP := Sorted_v ao cap l W2 (h.below B2) (by omega)
  rw [← hn] at CP
  have CP2 := Lib.hid CP
  have HB2 := Lib.hid B2
  have hco := hs.co
  have hbr := hs.br
  have hn19 : n ≤ 19 := by omega
  obtain ⟨S, hS⟩ : ∃ S, S = isort l := ⟨_, rfl⟩
  have HSZ : Hid (∀ x ∈ S, x.1.size ≤ 100 ∧ x.2.size ≤ 100) := fun x hx => hs.at1 x (isort_mem.1 (by rw [← hS]; exact hx))
  have HSL : Hid (S.length = n) := by unfold Hid; rw [hS, isort_length, hn]
  have HK : Hid (∀ O : ByteArray, O.data.toList = keyL p.co.data.toList p.br.data.toList S → O = keyB p l) := fun O hO => ba_ext' (by rw [hO, hS]; simp [keyB])
  rw [← hn]
  rw [← hS] at CP2
  clear h hl hn B2 CP hS hs
  go_enter Try.func12, Try.ntmps12
  go_wp2_with fail
  rw [← hW2]
  refine CP2.out.mono ?_; rintro e w3 ⟨a3, c3, rfl, hown, hb⟩
  have B3 := Lib.hid (keep HB2.out hb)
  have O3 := Lib.hid hown
  have hc3 : n ≤ c3 ∧ c3 ≤ 9223372036854775807 := by
    rcases hown.2 with ⟨e, h0⟩ | ⟨g, cap', cur, e, _, _, hnc, hcm, _, _⟩
    · cases e; omega
    · cases e; unfold maxLen at hcm; omega
  obtain ⟨hc31, hc32⟩ := hc3
  clear hown hb hW2
  go_wp2_with fail
  go_loopw [3, 16] (fun s3 s16 (wr : World) => ∃ (i : Nat) (O : ByteArray), i ≤ n ∧ s16 = .int .i64 (i : Int) ∧ s3 = .string O ∧ Hid (O.data.toList = keyL p.co.data.toList p.br.data.toList (S.take i)) ∧ O.size ≤ 201 + 202 * i ∧ Hid (Below w3.heap.size w3 wr)) (fun _ s16 _ => n - (intOf s16).toNat)
  case atStart => exact ⟨0, _, by omega, rfl, rfl, by unfold Hid; simp [keyL], by simp only [ByteArray.size_append]; have : (⟨#[124]⟩ : ByteArray).size = 1 := rfl; omega, Below.refl _ _⟩
  case round =>
    obtain ⟨i, O, hin, rfl, rfl, hO, hOs, hbl⟩ := hrel
    by_cases hlt : i < n
    · have hlt2 : (i : Int) < (n : Int) := by omega
      have o4 := own_below O3.out hbl.out
      obtain ⟨g, rfl, _, _, _⟩ := row_form o4 (by omega)
      obtain ⟨c0, c1⟩ := own_at o4 hlt
      obtain ⟨x, hx⟩ : ∃ x, x = S.getD i e2 := ⟨_, rfl⟩
      have hmem : x ∈ S := by rw [hx]; have : i < S.length := by rw [HSL.out]; exact hlt
                              simp [List.getD, this]
      obtain ⟨z1, z2⟩ := HSZ.out x hmem
      have hO2 : Hid (∀ O2 : ByteArray, O2.data.toList = O.data.toList ++ kt x → O2.data.toList = keyL p.co.data.toList p.br.data.toList (S.take (i + 1))) := fun O2 h2 => by
        rw [h2, hO.out, List.take_add_one]
        have : S[i]? = some x := by rw [hx]; have : i < S.length := by rw [HSL.out]; exact hlt
                                    simp [List.getD, this]
        rw [this, Option.toList_some, keyL_snoc]
      rw [← hx] at c0 c1
      obtain ⟨x1, x2⟩ := x
      have z3 : x1.size ≤ 100 := z1
      have z4 : x2.size ≤ 100 := z2
      clear z1 z2
      have g1 : O.size + 1 ≤ 9223372036854775807 := by omega
      have g2 : O.size + 1 + x1.size ≤ 9223372036854775807 := by omega
      have g3 : O.size + 1 + x1.size + 1 ≤ 9223372036854775807 := by omega
      have g4 : O.size + 1 + x1.size + 1 + x2.size ≤ 9223372036854775807 := by omega
      have hic : i < c3 := by omega
      have s1 : (⟨#[124]⟩ : ByteArray).size = 1 := rfl
      have s2 : (⟨#[61]⟩ : ByteArray).size = 1 := rfl
      clear hx hmem hO o4
      go_wp2_with fail
      have hb5 : Below w3.heap.size w3 (wr.alloc (.cells #[.string x1, .string x2] 42)) := keep hbl.out (below_new _ _)
      have hfin := hO2.out (O ++ ⟨#[124]⟩ ++ x1 ++ ⟨#[61]⟩ ++ x2) (by simp [kt, kv])
      have HB5 := Lib.hid hb5
      have HF := Lib.hid hfin
      clear hb5 hfin
      go_roundw
      case rel => exact ⟨i + 1, _, by omega, by go_num, rfl, HF, by simp only [ByteArray.size_append, s1, s2]; omega, HB5⟩
      case measure => first | (simp [intOf]; done) | (simp [intOf]; omega)
    · obtain rfl : i = n := by omega
      have hlt2 : ¬ (i : Int) < (i : Int) := by omega
      have hE := HK.out O (by rw [hO.out, List.take_of_length_le (by rw [HSL.out]; exact Nat.le_refl _)])
      have HE : Hid (O = keyB p l) := hE
      clear hO hE
      go_wp2_with fail
      go_ret
      exact ⟨ret_str HE.out, keep B3.out hbl.out⟩

def PT (co br : ByteArray) (s : List Atr) : List ByteArray := co :: br :: s.map kvB
theorem PT_length (co br : ByteArray) (s : List Atr) : (PT co br s).length = 2 + s.length := by simp [PT]; omega
theorem PT_snoc (co br : ByteArray) (s : List Atr) (x : Atr) : strs (PT co br (s ++ [x])) = strs (PT co br s) ++ [.string (kvB x)] := by simp [PT, strs]
theorem PT_join (co br : ByteArray) (s : List Atr) : Lib.join ((PT co br s).map (·.data.toList)) [124] = keyL co.data.toList br.data.toList s := by
  rw [← keyL_join]
  congr 1
  simp [PT, kvB_list]
theorem one_cell2 (w : World) (o : Obj) (u : Value) (t : TypeId) : ∀ j x, [u][j]? = some x → ((w.alloc o).alloc (.cells #[u] t)).cell? ((⟨w.heap.size + 1, 0, none⟩ : Addr).add j) = some x := by
  have := C6.one_cell (w.alloc o) u t
  rwa [World.size_alloc] at this

set_option maxHeartbeats 8000000 in
set_option maxRecDepth 100000 in
theorem Key_v (p : Pd) (ao : Option Addr) (cap : Nat) (l : List Atr) (w : World) (h : RdA w ao cap l) (hl : l.length ≤ 19) (hs : Sz p l) :
    Calls Try.prog 11 #[.agg #[.string p.id, .string p.co, .string p.br, .int .i64 p.d, .int .i64 p.c, .int .i64 p.a, .slice ao l.length cap]] w fun e w' => e = .returned (.string (keyB p l)) ∧ Below w.heap.size w w' := by
  obtain ⟨i0, hi, hz0, hz1, hz2⟩ := info_parts infoStr
  obtain ⟨n, hn⟩ : ∃ n, n = l.length := ⟨_, rfl⟩
  obtain ⟨W2, hW2⟩ : ∃ W, W = w.alloc (.cells #[.string p.id, .string p.co, .string p.br, .int .i64 p.d, .int .i64 p.c, .int .i64 p.a, .slice ao n cap] 26) := ⟨_, rfl⟩
  have B2 : Below w.heap.size w W2 := by rw [hW2]; exact below_new _ _
  have s2 : W2.heap.size = w.heap.size + 1 := by rw [hW2]; exact World.size_alloc _ _
  obtain ⟨W3, hW3⟩ : ∃ W, W = W2.alloc (.cells #[.string p.co, .string p.br] 9) := ⟨_, rfl⟩
  have B3 : Below w.heap.size w W3 := by rw [hW3]; exact keep B2 (below_new _ _)
  have s3 : W3.heap.size = w.heap.size + 2 := by rw [hW3, World.size_alloc, s2]
  have OL : W3.ownsRow w.heap.size 9 1 (.slice (some ⟨w.heap.size + 1, 0, none⟩) 2 2) 2 (strs (PT p.co p.br [])) := by
    have := World.ownsRow_lit (base := w.heap.size) (size := 1) (e := 9) W2 #[.string p.co, .string p.br] 2 B2.size (by decide) rfl
    rw [s2, ← hW3] at this
    exact this
  have P3 : PB W3 w.heap.size p (.slice ao n cap) := by
    rw [hW3, hW2]
    exact (PB.new _ _ _).below (below_new _ _)
  have CP := Normalize_v p ao cap l W3 (h.below B3) hl
  unfold NPost at CP
  rw [← hn] at CP
  have hco := hs.co
  have hbr := hs.br
  have hn19 : n ≤ 19 := by omega
  obtain ⟨S, hS⟩ : ∃ S, S = isort l := ⟨_, rfl⟩
  rw [← hS] at CP
  have CP2 := Lib.hid CP
  have HB3 := Lib.hid B3
  have HS3 := Lib.hid s3
  have HOL := Lib.hid OL
  have HSZ : Hid (∀ x ∈ S, x.1.size ≤ 100 ∧ x.2.size ≤ 100) := fun x hx => hs.at1 x (isort_mem.1 (by rw [← hS]; exact hx))
  have HSL : Hid (S.length = n) := by unfold Hid; rw [hS, isort_length, hn]
  have HJ : Hid (Lib.join ((PT p.co p.br S).map (·.data.toList)) [124] = keyL p.co.data.toList p.br.data.toList S ∧ (keyL p.co.data.toList p.br.data.toList S).length ≤ 100000 ∧ keyB p l = ⟨(keyL p.co.data.toList p.br.data.toList S).toArray⟩) := by
    refine ⟨PT_join _ _ _, ?_, by rw [hS]; rfl⟩
    have := keyL_length p.co.data.toList p.br.data.toList S HSZ.out
    rw [HSL.out, lsz, lsz] at this
    omega
  obtain ⟨k0, k1, k2, k3, k4, k5, k6⟩ := P3.cells
  rw [← hn]
  clear h hl hn B2 CP hS hs B3 OL P3 s2 s3
  go_enter Try.func11, Try.ntmps11
  go_wp2_with fail
  rw [← hW2, ← hW3]
  refine CP2.out.mono ?_; rintro e w4 ⟨a3, c3, rfl, hown, hb⟩
  have B4 := Lib.hid (keep HB3.out hb)
  have O4 := Lib.hid (own_below HOL.out hb)
  have hfield := field4_v p a3 n c3 w4
  have hc3 : n ≤ c3 ∧ c3 ≤ 9223372036854775807 := by
    rcases hown.2 with ⟨e, h0⟩ | ⟨g, cap', cur, e, _, _, hnc, hcm, _, _⟩
    · cases e; omega
    · cases e; unfold maxLen at hcm; omega
  obtain ⟨hc31, hc32⟩ := hc3
  have R4 : Hid (RdA w4 a3 c3 S ∧ offB a3 S (fun b => some b ≠ some (w.heap.size + 1))) := by
    obtain ⟨ao4, cp4, e4, r4, ob4, _⟩ := RdA.of_row hown
    rw [HSL.out] at e4
    cases e4
    exact ⟨r4, fun h0 b o e => by have := ob4 h0 b o e; rw [HS3.out] at this; simp; omega⟩
  clear hown hb hW2 hW3 k0 k1 k2 k3 k4 k5 k6
  go_wp2_with fail
  go_loopw [3, 15] (fun s3 s15 (wr : World) => ∃ (i : Nat) (a : Option Addr) (c : Nat), i ≤ n ∧ s15 = .int .i64 (i : Int) ∧ s3 = .slice a (2 + i) c ∧ Hid (wr.ownsRow w.heap.size 9 1 (.slice a (2 + i) c) (2 + i) (strs (PT p.co p.br (S.take i)))) ∧ Hid (RdA wr a3 c3 S ∧ offB a3 S (fun b => some b ≠ Value.ownBlock (.slice a (2 + i) c))) ∧ Hid (Below w.heap.size w wr)) (fun _ s15 _ => n - (intOf s15).toNat)
  case atStart => exact ⟨0, _, _, by omega, rfl, rfl, O4, R4, B4⟩
  case round =>
    obtain ⟨i, a, c, hin, rfl, rfl, hown, hrd, hbl⟩ := hrel
    by_cases hlt : i < n
    · have hlt2 : (i : Int) < (n : Int) := by omega
      obtain ⟨b, o, rfl, hcs⟩ := hrd.out.1.at (i := i) (by rw [HSL.out]; exact hlt)
      obtain ⟨c0, c1⟩ := hcs i (by rw [HSL.out]; exact hlt)
      obtain ⟨x, hx⟩ : ∃ x, x = S.getD i e2 := ⟨_, rfl⟩
      have hmem : x ∈ S := by rw [hx]; have : i < S.length := by rw [HSL.out]; exact hlt
                              simp [List.getD, this]
      obtain ⟨z1, z2⟩ := HSZ.out x hmem
      have HTK : Hid (strs (PT p.co p.br (S.take (i + 1))) = strs (PT p.co p.br (S.take i)) ++ [.string (kvB x)]) := by
        unfold Hid
        rw [List.take_add_one]
        have : S[i]? = some x := by rw [hx]; have : i < S.length := by rw [HSL.out]; exact hlt
                                    simp [List.getD, this]
        rw [this, Option.toList_some, PT_snoc]
      rw [← hx] at c0 c1
      obtain ⟨x1, x2⟩ := x
      have z3 : x1.size ≤ 100 := z1
      have z4 : x2.size ≤ 100 := z2
      have g1 : x1.size + 1 ≤ 9223372036854775807 := by omega
      have g2 : x1.size + 1 + x2.size ≤ 9223372036854775807 := by omega
      have hic : i < c3 := by omega
      have s2 : (⟨#[61]⟩ : ByteArray).size = 1 := rfl
      have hbw : w.heap.size ≤ wr.heap.size := hbl.out.size
      have HOA : Hid (((wr.alloc (.cells #[.string x1, .string x2] 42)).alloc (.cells #[.string (x1 ++ ⟨#[61]⟩ ++ x2)] 9)).ownsRow w.heap.size 9 1 (.slice a (2 + i) c) (2 + i) (strs (PT p.co p.br (S.take i)))) := (hown.out.alloc _).alloc _
      have hrows : ∀ k, Value.ownBlock (.slice a (2 + i) c) = some k → w.heap.size ≤ k := fun k e => (hown.out.lt k e).1
      have HBA : Hid (Below w.heap.size w ((wr.alloc (.cells #[.string x1, .string x2] 42)).alloc (.cells #[.string (x1 ++ ⟨#[61]⟩ ++ x2)] 9))) := keep (keep hbl.out (below_new _ _)) (below_new _ _)
      have HRA : Hid (RdA ((wr.alloc (.cells #[.string x1, .string x2] 42)).alloc (.cells #[.string (x1 ++ ⟨#[61]⟩ ++ x2)] 9)) (some ⟨b, o, none⟩) c3 S) := (hrd.out.1.below (below_new _ _)).below (below_new _ _)
      have hbl0 : b < wr.heap.size := hrd.out.1.lt (by rw [HSL.out]; omega) b o rfl
      have hbne := hrd.out.2 (by rw [HSL.out]; omega) b o rfl
      have HBN := Lib.hid hbne
      clear hx hmem hcs z1 z2 hown hbne
      go_wp2_with (at_builtin; refine wpList_append_own_at _ rfl _ _ 39 rfl w.heap.size 9 i0 (.string ByteArray.empty) 1 16 Try.underlying39 hi hz0 hz1 hz2 rfl (by decide) _ (2 + i) _ rfl HOA.out ⟨wr.heap.size + 1, 0, none⟩ 1 1 [.string (x1 ++ ⟨#[61]⟩ ++ x2)] rfl rfl (one_cell2 _ _ _ _) (by intro u hu; simp at hu; rcases hu with rfl; rfl) (by unfold maxLen; omega) (by omega) (by simp; omega) ?_; intro v5 w5 hown5 hgr5 _ hob5; obtain ⟨a5, c5, rfl⟩ := of_row_n hown5)
      have B5 : Hid (Below w.heap.size w w5) := HBA.out.grown hgr5 HBA.out.size (fun k e => hrows k e)
      have R5 : Hid (RdA w5 (some ⟨b, o, none⟩) c3 S ∧ offB (some ⟨b, o, none⟩) S (fun b => some b ≠ Value.ownBlock (.slice a5 (2 + (i + 1)) c5))) := by
        refine ⟨HRA.out.grown (fun _ b' o' e => by cases e; exact HBN.out) hgr5, fun _ b' o' e => ?_⟩
        cases e
        have e1 : Value.ownBlock (.slice a5 (2 + (i + 1)) c5) = Value.ownBlock (.slice a5 (2 + i + 1) c5) := rfl
        rw [e1]
        rcases hob5 with h | h
        · rw [h]; exact HBN.out
        · rw [h]; simp; omega
      have O5 : Hid (w5.ownsRow w.heap.size 9 1 (.slice a5 (2 + (i + 1)) c5) (2 + (i + 1)) (strs (PT p.co p.br (S.take (i + 1))))) := by unfold Hid; rw [HTK.out]; exact hown5
      have e5 : Value.slice a5 (2 + i + 1) c5 = Value.slice a5 (2 + (i + 1)) c5 := rfl
      rw [e5]
      clear hown5 hgr5 hob5
      go_wp2_with fail
      go_roundw
      case rel => exact ⟨i + 1, a5, c5, by omega, by go_num, rfl, O5, R5, B5⟩
      case measure => first | (simp [intOf]; done) | (simp [intOf]; omega)
    · obtain rfl : i = n := by omega
      have hlt2 : ¬ (i : Int) < (i : Int) := by omega
      have hw := hown.out
      rw [List.take_of_length_le (by rw [HSL.out]; exact Nat.le_refl _)] at hw
      obtain ⟨g, rfl, hg, _, hcs⟩ := row_form hw (by omega)
      have hcc : 2 + i ≤ c := by
        rcases hw.2 with ⟨e, h0⟩ | ⟨g, cap', cur, e, _, _, hnc, hcm, _, _⟩
        · cases e
        · cases e; exact hnc
      have hPl : (PT p.co p.br S).length = 2 + i := by rw [PT_length, HSL.out]
      have J : Hid (Calls Try.prog 24 #[.slice (some ⟨g, 0, none⟩) (2 + i) c, .string ⟨#[124]⟩] wr fun e w' => e = .returned (.string (keyB p l)) ∧ Below wr.heap.size wr w') := by
        have := Try.strings_Join g 0 c (PT p.co p.br S) ⟨#[124]⟩ wr (fun j x hx => by
          have := hcs j (.string x) (by simp [strs, hx])
          rwa [Addr.add_lit] at this) hg (by omega) (by omega) (by
          have h1 := HJ.out.1
          have h2 := HJ.out.2.1
          show (Lib.join _ [124]).length ≤ _
          rw [h1]; omega)
        rw [hPl] at this
        unfold Hid
        rw [HJ.out.2.2, ← HJ.out.1]
        exact this
      clear hw hcs hPl hown hrd
      go_wp2_with fail
      refine J.out.mono ?_; rintro e w6 ⟨rfl, b6⟩
      have B6 := Lib.hid (keep hbl.out b6)
      clear b6
      go_wp2_with fail
      go_ret
      exact ⟨rfl, B6.out⟩
end Go.Proofs.Ytpoipkjchnopbaa.P9
