import Derived.Test.YtpoipkjchnopbaaPrd4
import Derived.Maps.OwnOps
import Derived.Maps.Views
import Derived.Maps.AppendAt
import Derived.DeepKeys4
/- Layer 9: the names of the attributes of a list that another one does not have (namesOutside). -/
namespace Go.Proofs.Ytpoipkjchnopbaa.P9
open Go.RowKit Go.Sort C6 Go.Maps

/-- whether an attribute is in a list -/
noncomputable def inB (x : Atr) (S : List Atr) : Bool := @decide (x ∈ S) (Classical.propDecidable _)
theorem inB_pos {x : Atr} {S : List Atr} (h : x ∈ S) : inB x S = true := by unfold inB; simp [h]
theorem inB_neg {x : Atr} {S : List Atr} (h : x ∉ S) : inB x S = false := by unfold inB; simp [h]
theorem inB_iff {x : Atr} {S : List Atr} : inB x S = true ↔ x ∈ S := by unfold inB; simp
theorem inB_same {x : Atr} {S T : List Atr} (h : x ∈ S ↔ x ∈ T) : inB x S = inB x T := by
  by_cases hx : x ∈ S
  · rw [inB_pos hx, inB_pos (h.1 hx)]
  · rw [inB_neg hx, inB_neg (fun ht => hx (h.2 ht))]
def AS (l : List Atr) : Prop := ∀ x ∈ l, x.1.size ≤ 1000 ∧ x.2.size ≤ 1000
theorem rowA : (42 : TypeId) < Try.prog.types.size := of_decide_eq_true (by kernel_rfl)
theorem laidA : laidOutB Try.prog = true := by kernel_rfl
theorem lawA : Keyed Try.prog 42 := Keyed.of_law (deep_law_laid laidA (m := 2) (by omega) rowA (by kernel_rfl) (by kernel_rfl))
theorem zeroB (w : World) : (zeroValue 4).run Try.prog w = .ok (.bool false) w := by kernel_rfl
theorem keyTA : Try.prog.keyType 42 = true := by kernel_rfl
theorem cellsA : Try.prog.cellsOf 42 = 2 := by kernel_rfl
theorem cellsS : Try.prog.cellsOf 9 = 1 := by kernel_rfl
theorem typesA : ∃ m, Try.prog.types.size = m + 1 := ⟨_, (Nat.succ_pred_eq_of_pos (Nat.lt_of_le_of_lt (Nat.zero_le _) rowA)).symm⟩
theorem key_of {a b : ByteArray} (ha : a.size ≤ 1000) (hb : b.size ≤ 1000) : ∃ kl, keyOf Try.prog 42 (.agg #[.string a, .string b]) = some kl := by
  have ha' : a.size ≤ maxLen := by unfold maxLen; omega
  have hb' : b.size ≤ maxLen := by unfold maxLen; omega
  obtain ⟨m, hm⟩ := typesA
  have hf : (Value.agg #[.string a, .string b]).formed Try.prog 42 = true := by
    simp [Value.formed, Try.underlying42, cellsA]
  unfold keyOf
  simp only [Try.underlying42, keyTA, hf, Bool.and_self, if_true, hm]
  simp [Program.keyLits, Try.underlying42, Try.underlying9, cellsA, cellsS, Value.cells, ha', hb']
theorem plainElem_bool_inv {H : Type} {P : Program} {e : TypeId} (he : P.underlying e = some .bool) {v : Value} {z : DataW H × List MemPlace} (h : plainElem P e v = some z) : ∃ x, v = .bool x ∧ z = (.lit (.bool x), []) := by
  unfold plainElem at h
  rw [he] at h
  cases v <;> simp at h
  subst h
  exact ⟨_, rfl, rfl⟩

/-- block b is a map whose keys are the attributes S -/
def Mp (w : World) (b n : Nat) (S : List Atr) : Prop := ∃ D : DataW Unit, w.ownsMap Try.prog 42 (plainElem Try.prog 4) b n D ∧ IsMap D ∧ ∀ (x : Atr) kl, keyOf Try.prog 42 (.agg #[.string x.1, .string x.2]) = some kl → D.atKey kl (.lit (.bool false)) = .lit (.bool (inB x S))
theorem Mp.new (w : World) : Mp (w.alloc (.map #[] 0)) w.heap.size 0 [] :=
  ⟨.map [], World.ownsMap_made _ _ _ _, isMap_empty, fun _ _ _ => by rw [inB_neg (by simp)]; rfl⟩
theorem Mp.lt {w : World} {b n : Nat} {S : List Atr} (h : Mp w b n S) : b < w.heap.size := by obtain ⟨D, h, _⟩ := h; exact h.lt
theorem Mp.grown {w w' : World} {b n : Nat} {S : List Atr} (h : Mp w b n S) {row : Option Nat} (k : w.grownBy w' row) (hne : some b ≠ row) : Mp w' b n S := by
  obtain ⟨D, h, r⟩ := h
  exact ⟨D, h.kept k hne, r⟩
theorem Mp.below {w w' : World} {b n : Nat} {S : List Atr} (h : Mp w b n S) (k : Below w.heap.size w w') : Mp w' b n S := h.grown (below_gb k none) (by simp)
theorem Mp.look {w : World} {b n : Nat} {S : List Atr} (h : Mp w b n S) {x1 x2 : ByteArray} (h1 : x1.size ≤ 1000) (h2 : x2.size ≤ 1000) : (Instr.lookup 75 (.map (some b)) (.agg #[.string x1, .string x2]) false).run Try.prog w = .ok (.bool (inB (x1, x2) S)) w := by
  obtain ⟨D, h, _, r⟩ := h
  obtain ⟨kl, hk⟩ := key_of h1 h2
  obtain ⟨v, ps, hrun, hv⟩ := h.lookup lawA Try.underlying75 (zeroB w) (plainElem_bool Try.underlying4 false) hk
  obtain ⟨c, rfl, e⟩ := plainElem_bool_inv Try.underlying4 hv
  rw [r (x1, x2) kl hk] at e
  simp at e
  rw [hrun, ← e.1]
theorem Mp.put {w : World} {b n : Nat} {S : List Atr} (h : Mp w b n S) {x1 x2 : ByteArray} (h1 : x1.size ≤ 1000) (h2 : x2.size ≤ 1000) (hn : n < maxLen) : ∃ w', (Instr.mapUpdate 75 (.map (some b)) (.agg #[.string x1, .string x2]) (.bool true)).run Try.prog w = .ok () w' ∧ Mp w' b (n + 1) (S ++ [(x1, x2)]) ∧ w.grownBy w' (some b) := by
  obtain ⟨D, h, hm, r⟩ := h
  obtain ⟨kl, hk⟩ := key_of h1 h2
  obtain ⟨w', hrun, h', hg⟩ := h.update lawA Try.underlying75 hn hk (plainElem_bool Try.underlying4 true)
  refine ⟨w', hrun, ⟨_, h', hm.put _ _, fun y kl' hy => ?_⟩, hg⟩
  by_cases e : kl' = kl
  · subst e
    have := lawA.inj hy hk
    simp at this
    have hyx : y = (x1, x2) := by obtain ⟨y1, y2⟩ := y; simp at this ⊢; exact this
    rw [atKey_put_same hm (lawA.key hk), hyx, inB_pos (by simp)]
  · rw [atKey_put_other e, r y kl' hy]
    have hyx : y ≠ (x1, x2) := by rintro rfl; rw [hk] at hy; cases hy; exact e rfl
    rw [inB_same (S := S) (T := S ++ [(x1, x2)]) (by simp [hyx])]

/-- the names of the attributes of l that are not in o -/
noncomputable def nms (l o : List Atr) : List ByteArray := (l.filter (fun x => !inB x o)).map (·.1)
theorem nms_nil (o : List Atr) : nms [] o = [] := rfl
theorem nms_in {l o : List Atr} {x : Atr} (h : x ∈ o) : nms (l ++ [x]) o = nms l o := by simp [nms, inB_pos h]
theorem nms_out {l o : List Atr} {x : Atr} (h : x ∉ o) : nms (l ++ [x]) o = nms l o ++ [x.1] := by simp [nms, inB_neg h]
theorem nms_le (l o : List Atr) : (nms l o).length ≤ l.length := by
  unfold nms
  rw [List.length_map]
  exact List.length_filter_le _ _
theorem strs_snoc (l : List ByteArray) (x : ByteArray) : strs (l ++ [x]) = strs l ++ [.string x] := by simp [strs]
theorem take_snoc {l : List Atr} {i : Nat} (h : i < l.length) : l.take (i + 1) = l.take i ++ [l.getD i e2] := by
  rw [List.take_add_one]
  simp [List.getD, h]
theorem one_cell3 (w : World) (o : Obj) (u : Value) (t : TypeId) : ∀ j x, [u][j]? = some x → ((w.alloc o).alloc (.cells #[u] t)).cell? ((⟨w.heap.size + 1, 0, none⟩ : Addr).add j) = some x := by
  have := C6.one_cell (w.alloc o) u t
  rwa [World.size_alloc] at this

set_option maxHeartbeats 8000000 in
set_option maxRecDepth 100000 in
theorem namesOutside_v (ao bo : Option Addr) (ca cb : Nat) (l o : List Atr) (w : World) (h : RdA w ao ca l) (k : RdA w bo cb o) (hl : l.length ≤ 1000) (ho : o.length ≤ 1000) (sl : AS l) (so : AS o) :
    Calls Try.prog 28 #[.slice ao l.length ca, .slice bo o.length cb] w fun e w' => ∃ (a : Option Addr) (q c : Nat), e = .returned (.slice a q c) ∧ q = (nms l o).length ∧ w'.ownsRow (w.heap.size + 1) 9 1 (.slice a q c) q (strs (nms l o)) ∧ Below w.heap.size w w' := by
  obtain ⟨i0, hi, hz0, hz1, hz2⟩ := info_parts infoStr
  have hmm := @run_makeMap Try.prog
  obtain ⟨n, hn⟩ : ∃ n, n = l.length := ⟨_, rfl⟩
  obtain ⟨m, hm⟩ : ∃ m, m = o.length := ⟨_, rfl⟩
  have HR := Lib.hid h
  have HK := Lib.hid k
  have HN := Lib.hid hn
  have HM := Lib.hid hm
  have HSL := Lib.hid sl
  have HSO := Lib.hid so
  obtain ⟨ha1, ha2⟩ : n ≤ ca ∧ ca ≤ 9223372036854775807 := by have := h.1; have := h.2.1; omega
  obtain ⟨hb1, hb2⟩ : m ≤ cb ∧ cb ≤ 9223372036854775807 := by have := k.1; have := k.2.1; omega
  have hn1 : n ≤ 1000 := by omega
  have hm1 : m ≤ 1000 := by omega
  have HM0 := Lib.hid (Mp.new w)
  have HB0 := Lib.hid (below_new w (.map #[] 0))
  rw [← hn, ← hm]
  clear h k hl ho sl so hn hm
  go_enter Try.func28, Try.ntmps28
  go_wp2_with fail
  go_loopw [14] (fun s14 wr => ∃ i : Nat, i ≤ m ∧ s14 = .int .i64 (i : Int) ∧ Hid (Mp wr w.heap.size i (o.take i)) ∧ Hid (Below w.heap.size w wr)) (fun s14 _ => m - (intOf s14).toNat)
  case atStart => exact ⟨0, by omega, rfl, HM0, HB0⟩
  case round =>
    obtain ⟨i, him, rfl, hmp, hbl⟩ := hrel
    clear HM0 HB0
    by_cases hlt : i < m
    · have hltI : (i : Int) < (m : Int) := by omega
      obtain ⟨b, o', rfl, hcs⟩ := (HK.out.below hbl.out).at (i := i) (by have := HM.out; omega)
      obtain ⟨c0, c1⟩ := hcs i (by have := HM.out; omega)
      have HT : Hid (o.take (i + 1) = o.take i ++ [o.getD i e2]) := take_snoc (by have := HM.out; omega)
      have hsz := HSO.out (o.getD i e2) (by have : i < o.length := by have := HM.out; omega
                                            simp [List.getD, this])
      obtain ⟨x, hx⟩ : ∃ x, x = o.getD i e2 := ⟨_, rfl⟩
      rw [← hx] at c0 c1 HT hsz
      obtain ⟨x1, x2⟩ := x
      obtain ⟨z1, z2⟩ := hsz
      have hbg : Below w.heap.size w (wr.alloc (.cells #[.string x1, .string x2] 42)) := keep hbl.out (below_new _ _)
      obtain ⟨w5, hrun, hm5, hg5⟩ := (hmp.out.below (below_new wr (.cells #[.string x1, .string x2] 42))).put z1 z2 (by unfold maxLen; omega)
      have M5 : Hid (Mp w5 w.heap.size (i + 1) (o.take (i + 1))) := by unfold Hid; rw [HT.out]; exact hm5
      have B5 : Hid (Below w.heap.size w w5) := hbg.grown hg5 hbg.size (fun k e => by cases e; exact Nat.le_refl _)
      have hic : i < cb := by omega
      clear hx hcs hm5 hg5 hbg hmp HT
      go_wp2_with fail
      go_roundw
      case rel => exact ⟨i + 1, by omega, by go_num, M5, B5⟩
      case measure => first | (simp [intOf]; done) | (simp [intOf]; omega)
    · obtain rfl : i = m := by omega
      have hni : ¬ (i : Int) < (i : Int) := by omega
      have hM := hmp.out
      rw [HM.out, List.take_length, ← HM.out] at hM
      have HMP := Lib.hid hM
      have HBL := Lib.hid hbl
      clear hM hmp
      go_wp2_with fail
      go_loopw [23, 8] (fun s23 s8 wq => ∃ (j q : Nat) (a : Option Addr) (c : Nat), j ≤ n ∧ s23 = .int .i64 (j : Int) ∧ s8 = .slice a q c ∧ q ≤ j ∧ Hid (q = (nms (l.take j) o).length) ∧ Hid (wq.ownsRow (w.heap.size + 1) 9 1 (.slice a q c) q (strs (nms (l.take j) o))) ∧ Hid (Mp wq w.heap.size i o) ∧ Hid (Below w.heap.size w wq)) (fun s23 _ _ => n - (intOf s23).toNat)
      case atStart => exact ⟨0, 0, none, 0, by omega, rfl, rfl, by omega, rfl, World.ownsRow_nil _ _ _ _, HMP, hbl⟩
      case round =>
        obtain ⟨j, q, a, c, hjn, rfl, rfl, hqj, hq, hown, hmp, hbq⟩ := hrel
        clear HMP HBL hbl
        by_cases hlt : j < n
        · have hltI : (j : Int) < (n : Int) := by omega
          obtain ⟨b, o', rfl, hcs⟩ := (HR.out.below hbq.out).at (i := j) (by have := HN.out; omega)
          obtain ⟨c0, c1⟩ := hcs j (by have := HN.out; omega)
          have HT : Hid (l.take (j + 1) = l.take j ++ [l.getD j e2]) := take_snoc (by have := HN.out; omega)
          have hsz := HSL.out (l.getD j e2) (by have : j < l.length := by have := HN.out; omega
                                                simp [List.getD, this])
          obtain ⟨x, hx⟩ : ∃ x, x = l.getD j e2 := ⟨_, rfl⟩
          rw [← hx] at c0 c1 HT hsz
          obtain ⟨x1, x2⟩ := x
          obtain ⟨z1, z2⟩ := hsz
          have M4 : Hid (Mp (wr.alloc (.cells #[.string x1, .string x2] 42)) w.heap.size i o) := hmp.out.below (below_new _ _)
          have B4 : Hid (Below w.heap.size w (wr.alloc (.cells #[.string x1, .string x2] 42))) := keep hbq.out (below_new _ _)
          have hrun := M4.out.look z1 z2
          have hic : j < ca := by omega
          clear hx hcs
          by_cases hin : (x1, x2) ∈ o
          · rw [inB_pos hin] at hrun
            have HQ : Hid (nms (l.take (j + 1)) o = nms (l.take j) o) := by unfold Hid; rw [HT.out, nms_in hin]
            have O4 : Hid ((wr.alloc (.cells #[.string x1, .string x2] 42)).ownsRow (w.heap.size + 1) 9 1 (.slice a q c) q (strs (nms (l.take (j + 1)) o))) := by unfold Hid; rw [HQ.out]; exact hown.out.alloc _
            have HQ2 : Hid (q = (nms (l.take (j + 1)) o).length) := by unfold Hid; rw [HQ.out]; exact hq.out
            clear hin HT HQ hown hq
            go_wp2_with fail
            go_roundw
            case rel => exact ⟨j + 1, q, a, c, by omega, by go_num, rfl, by omega, HQ2, O4, M4, B4⟩
            case measure => first | (simp [intOf]; done) | (simp [intOf]; omega)
          · rw [inB_neg hin] at hrun
            have HQ : Hid (nms (l.take (j + 1)) o = nms (l.take j) o ++ [x1]) := by unfold Hid; rw [HT.out, nms_out hin]
            have HOA : Hid (((wr.alloc (.cells #[.string x1, .string x2] 42)).alloc (.cells #[.string x1] 9)).ownsRow (w.heap.size + 1) 9 1 (.slice a q c) q (strs (nms (l.take j) o))) := (hown.out.alloc _).alloc _
            have hrows : ∀ k, Value.ownBlock (.slice a q c) = some k → w.heap.size + 1 ≤ k := fun k e => (hown.out.lt k e).1
            have MA : Hid (Mp ((wr.alloc (.cells #[.string x1, .string x2] 42)).alloc (.cells #[.string x1] 9)) w.heap.size i o) := M4.out.below (below_new _ _)
            have BA : Hid (Below w.heap.size w ((wr.alloc (.cells #[.string x1, .string x2] 42)).alloc (.cells #[.string x1] 9))) := keep B4.out (below_new _ _)
            have hbw : w.heap.size ≤ wr.heap.size := hbq.out.size
            have HROWS := Lib.hid hrows
            clear hin HT hown hrows
            go_wp2_with (at_builtin; refine wpList_append_own_at _ rfl _ _ 39 rfl (w.heap.size + 1) 9 i0 (.string ByteArray.empty) 1 16 Try.underlying39 hi hz0 hz1 hz2 rfl (by decide) _ q _ rfl HOA.out ⟨wr.heap.size + 1, 0, none⟩ 1 1 [.string x1] rfl rfl (one_cell3 _ _ _ _) (by intro u hu; simp at hu; rcases hu with rfl; rfl) (by unfold maxLen; omega) (by omega) (by simp; omega) ?_; intro v5 w5 hown5 hgr5 _ hob5; obtain ⟨a5, c5, rfl⟩ := of_row_n hown5)
            have B5 : Hid (Below w.heap.size w w5) := BA.out.grown hgr5 BA.out.size (fun k e => by have := HROWS.out k e; omega)
            have M5 : Hid (Mp w5 w.heap.size i o) := MA.out.grown hgr5 (fun e => by have := HROWS.out _ e.symm; omega)
            have O5 : Hid (w5.ownsRow (w.heap.size + 1) 9 1 (.slice a5 (q + 1) c5) (q + 1) (strs (nms (l.take (j + 1)) o))) := by unfold Hid; rw [HQ.out, strs_snoc]; exact hown5
            have HQ2 : Hid (q + 1 = (nms (l.take (j + 1)) o).length) := by unfold Hid; rw [HQ.out, List.length_append, ← hq.out]; rfl
            clear hown5 hgr5 hob5 HQ hq
            go_wp2_with fail
            go_roundw
            case rel => exact ⟨j + 1, q + 1, a5, c5, by omega, by go_num, rfl, by omega, HQ2, O5, M5, B5⟩
            case measure => first | (simp [intOf]; done) | (simp [intOf]; omega)
        · obtain rfl : j = n := by omega
          have hnj : ¬ (j : Int) < (j : Int) := by omega
          have O := hown.out
          have Q := hq.out
          rw [HN.out, List.take_length] at O Q
          have HO := Lib.hid O
          have HQ := Lib.hid Q
          clear O Q hown hq
          go_wp2_with fail
          go_ret
          exact ⟨a, q, c, rfl, HQ.out, HO.out, hbq.out⟩
end Go.Proofs.Ytpoipkjchnopbaa.P9
