import Derived.Test.YtkedgkfdmdlhoaaDoorPvA
import Derived.Test.YtkedgkfdmdlhoaaDoorPrd2
import Derived.Maps.OwnOps
import Derived.Maps.Views
import Derived.Maps.AppendAt
import Derived.DeepKeys4
/- Layer 9: maps keyed by strings; attributes: validAttributes of the code. -/
namespace Go.Proofs.YtkedgkfdmdlhoaaDoor.P9
open Go.RowKit Go.Sort C6 Go.Maps

/-- whether a string is in a list -/
noncomputable def inS (x : ByteArray) (S : List ByteArray) : Bool := @decide (x ∈ S) (Classical.propDecidable _)
theorem inS_pos {x : ByteArray} {S : List ByteArray} (h : x ∈ S) : inS x S = true := by unfold inS; simp [h]
theorem inS_neg {x : ByteArray} {S : List ByteArray} (h : x ∉ S) : inS x S = false := by unfold inS; simp [h]
theorem inS_iff {x : ByteArray} {S : List ByteArray} : inS x S = true ↔ x ∈ S := by unfold inS; simp
theorem inS_same {x : ByteArray} {S T : List ByteArray} (h : x ∈ S ↔ x ∈ T) : inS x S = inS x T := by
  by_cases hx : x ∈ S
  · rw [inS_pos hx, inS_pos (h.1 hx)]
  · rw [inS_neg hx, inS_neg (fun ht => hx (h.2 ht))]
theorem lawS : Keyed Tryd.prog 9 := string_keyed Tryd.underlying9
theorem zeroBs (w : World) : (zeroValue 4).run Tryd.prog w = .ok (.bool false) w := by kernel_rfl
theorem keyS {a : ByteArray} (ha : a.size ≤ 1000) : ∃ kl, keyOf Tryd.prog 9 (.string a) = some kl := by
  have ha' : a.size ≤ maxLen := by unfold maxLen; omega
  exact ⟨.string a.data.toList, keyOf_of_mapKey (by simp [mapKey, Tryd.underlying9, ha'])⟩
theorem plainB_inv {H : Type} {P : Program} {e : TypeId} (he : P.underlying e = some .bool) {v : Value} {z : DataW H × List MemPlace} (h : plainElem P e v = some z) : ∃ x, v = .bool x ∧ z = (.lit (.bool x), []) := by
  unfold plainElem at h
  rw [he] at h
  cases v <;> simp at h
  subst h
  exact ⟨_, rfl, rfl⟩

/-- block b is a map whose keys are the strings S -/
def MpS (w : World) (b n : Nat) (S : List ByteArray) : Prop := ∃ D : DataW Unit, w.ownsMap Tryd.prog 9 (plainElem Tryd.prog 4) b n D ∧ IsMap D ∧ ∀ (x : ByteArray) kl, keyOf Tryd.prog 9 (.string x) = some kl → D.atKey kl (.lit (.bool false)) = .lit (.bool (inS x S))
theorem MpS.new (w : World) : MpS (w.alloc (.map #[] 0)) w.heap.size 0 [] :=
  ⟨.map [], World.ownsMap_made _ _ _ _, isMap_empty, fun _ _ _ => by rw [inS_neg (by simp)]; rfl⟩
theorem MpS.lt {w : World} {b n : Nat} {S : List ByteArray} (h : MpS w b n S) : b < w.heap.size := by obtain ⟨D, h, _⟩ := h; exact h.lt
theorem MpS.grown {w w' : World} {b n : Nat} {S : List ByteArray} (h : MpS w b n S) {row : Option Nat} (k : w.grownBy w' row) (hne : some b ≠ row) : MpS w' b n S := by
  obtain ⟨D, h, r⟩ := h
  exact ⟨D, h.kept k hne, r⟩
theorem MpS.below {w w' : World} {b n : Nat} {S : List ByteArray} (h : MpS w b n S) (k : Below w.heap.size w w') : MpS w' b n S := h.grown (below_gb k none) (by simp)
theorem MpS.look {w : World} {b n : Nat} {S : List ByteArray} (h : MpS w b n S) {x : ByteArray} (h1 : x.size ≤ 1000) : (Instr.lookup 63 (.map (some b)) (.string x) false).run Tryd.prog w = .ok (.bool (inS x S)) w := by
  obtain ⟨D, h, _, r⟩ := h
  obtain ⟨kl, hk⟩ := keyS h1
  obtain ⟨v, ps, hrun, hv⟩ := h.lookup lawS Tryd.underlying63 (zeroBs w) (plainElem_bool Tryd.underlying4 false) hk
  obtain ⟨c, rfl, e⟩ := plainB_inv Tryd.underlying4 hv
  rw [r x kl hk] at e
  simp at e
  rw [hrun, ← e.1]
theorem MpS.put {w : World} {b n : Nat} {S : List ByteArray} (h : MpS w b n S) {x : ByteArray} (h1 : x.size ≤ 1000) (hn : n < maxLen) : ∃ w', (Instr.mapUpdate 63 (.map (some b)) (.string x) (.bool true)).run Tryd.prog w = .ok () w' ∧ MpS w' b (n + 1) (S ++ [x]) ∧ w.grownBy w' (some b) := by
  obtain ⟨D, h, hm, r⟩ := h
  obtain ⟨kl, hk⟩ := keyS h1
  obtain ⟨w', hrun, h', hg⟩ := h.update lawS Tryd.underlying63 hn hk (plainElem_bool Tryd.underlying4 true)
  refine ⟨w', hrun, ⟨_, h', hm.put _ _, fun y kl' hy => ?_⟩, hg⟩
  by_cases e : kl' = kl
  · subst e
    have hyx := lawS.inj hy hk
    have hyx : y = x := by simpa using hyx
    rw [atKey_put_same hm (lawS.key hk), hyx, inS_pos (by simp)]
  · rw [atKey_put_other e, r y kl' hy]
    have hyx : y ≠ x := by rintro rfl; rw [hk] at hy; cases hy; exact e rfl
    rw [inS_same (S := S) (T := S ++ [x]) (by simp [hyx])]

theorem carry2 {w w' : World} {g : Nat} {cs : Array Value} {t : TypeId} (h : w.heap[g]? = some (.cells cs t (0, 0))) (b : Below w.heap.size w w') : w'.heap[g]? = some (.cells cs t (0, 0)) := (b.block g (Array.getElem?_eq_some_iff.1 h).1).trans h
/-- an attribute that may follow those before it -/
noncomputable def okA (l : List Atr) (i : Nat) : Bool := nm (l.getD i e2).1.data.toList && nm (l.getD i e2).2.data.toList && !inS (l.getD i e2).1 ((l.take i).map (·.1))
noncomputable def vAt (l : List Atr) : Nat → Bool
  | 0 => true
  | i + 1 => vAt l i && okA l i
theorem vAt_bad {l : List Atr} {i : Nat} (h : okA l i = false) : ∀ k, i < k → vAt l k = false
  | 0, hk => absurd hk (Nat.not_lt_zero _)
  | k + 1, hk => by
    show (vAt l k && okA l k) = false
    by_cases e : i = k
    · rw [← e, h, Bool.and_false]
    · rw [vAt_bad h k (by omega)]; rfl
/-- attributes that a product may have -/
noncomputable def vA (l : List Atr) : Bool := decide (l.length ≤ 12) && vAt l l.length
theorem take_snocA {l : List Atr} {i : Nat} (h : i < l.length) : (l.take (i + 1)).map (·.1) = (l.take i).map (·.1) ++ [(l.getD i e2).1] := by
  have e : l.take (i + 1) = l.take i ++ [l.getD i e2] := by
    rw [List.take_add_one]
    simp [List.getD, h]
  rw [e, List.map_append]
  rfl

set_option maxHeartbeats 8000000 in
set_option maxRecDepth 100000 in
theorem validAttributes_v (ao : Option Addr) (ca : Nat) (l : List Atr) (w : World) (h : RdA w ao ca l) (hl : l.length ≤ 1000) (sl : ∀ x ∈ l, x.1.size ≤ 1000 ∧ x.2.size ≤ 1000) :
    Calls Tryd.prog 25 #[.slice ao l.length ca] w fun e w' => e = .returned (.bool (vA l)) ∧ Below w.heap.size w w' := by
  have hmm := @run_makeMap Tryd.prog
  obtain ⟨n, hn⟩ : ∃ n, n = l.length := ⟨_, rfl⟩
  have HR := Lib.hid h
  have HN := Lib.hid hn
  have HSL := Lib.hid sl
  obtain ⟨ha1, ha2⟩ : n ≤ ca ∧ ca ≤ 9223372036854775807 := by have := h.1; have := h.2.1; omega
  have hn1 : n ≤ 1000 := by omega
  have HM0 := Lib.hid (MpS.new w)
  have HB0 := Lib.hid (below_new w (.map #[] 0))
  rw [← hn]
  clear h hl sl hn
  by_cases h12 : n ≤ 12
  · have h12I : ¬ (12 : Int) < (n : Int) := by omega
    have h12J : (n : Int) ≤ 12 := by omega
    have HBad : Hid (∀ i, i < n → okA l i = false → false = vA l) := fun i hi hb => by
      unfold vA
      rw [vAt_bad hb l.length (by rw [← HN.out]; exact hi), Bool.and_false]
    have HEnd : Hid (vAt l n = true → true = vA l) := fun h => by
      unfold vA
      rw [decide_eq_true (by rw [← HN.out]; exact h12), ← HN.out, h]
      rfl
    go_enter Tryd.func25, Tryd.ntmps25
    go_wp2_with fail
    go_loopw [12] (fun s12 wr => ∃ i : Nat, i ≤ n ∧ s12 = .int .i64 (i : Int) ∧ Hid (MpS wr w.heap.size i ((l.take i).map (·.1))) ∧ Hid (vAt l i = true) ∧ Hid (Below w.heap.size w wr)) (fun s12 _ => n - (intOf s12).toNat)
    case atStart => exact ⟨0, by omega, rfl, HM0, rfl, HB0⟩
    case round =>
      obtain ⟨i, him, rfl, hmp, hva, hbl⟩ := hrel
      clear HM0 HB0
      by_cases hlt : i < n
      · have hltI : (i : Int) < (n : Int) := by omega
        obtain ⟨b, o', rfl, hcs⟩ := (HR.out.below hbl.out).at (i := i) (by have := HN.out; omega)
        obtain ⟨c0, c1⟩ := hcs i (by have := HN.out; omega)
        have HT : Hid ((l.take (i + 1)).map (·.1) = (l.take i).map (·.1) ++ [(l.getD i e2).1]) := take_snocA (by have := HN.out; omega)
        have hsz := HSL.out (l.getD i e2) (by have : i < l.length := by have := HN.out; omega
                                              simp [List.getD, this])
        have hok : okA l i = (nm (l.getD i e2).1.data.toList && nm (l.getD i e2).2.data.toList && !inS (l.getD i e2).1 ((l.take i).map (·.1))) := rfl
        obtain ⟨x, hx⟩ : ∃ x, x = l.getD i e2 := ⟨_, rfl⟩
        rw [← hx] at c0 c1 HT hsz hok
        obtain ⟨x1, x2⟩ := x
        obtain ⟨z1, z2⟩ := hsz
        obtain ⟨W5, hW5⟩ : ∃ W, W = wr.alloc (.cells #[.string x1, .string x2] 52) := ⟨_, rfl⟩
        obtain ⟨g5, hg5⟩ : ∃ g, g = wr.heap.size := ⟨_, rfl⟩
        have b5 : Below wr.heap.size wr W5 := by rw [hW5]; exact below_new _ _
        have x5 : Hid (W5.heap[g5]? = some (.cells #[.string x1, .string x2] 52 (0, 0))) := by rw [hW5, hg5]; exact heap_alloc_new _ _
        have HB5 : Hid (Below w.heap.size w W5) := keep hbl.out b5
        have HM5 := Lib.hid (hmp.out.below b5)
        have hic : i < ca := by omega
        obtain ⟨v1, hv1⟩ : ∃ v, v = nm x1.data.toList := ⟨_, rfl⟩
        obtain ⟨v2, hv2⟩ : ∃ v, v = nm x2.data.toList := ⟨_, rfl⟩
        have N1 : Hid (∀ w', Calls Tryd.prog 23 #[.string x1] w' fun e w2 => e = .returned (.bool v1) ∧ Below w'.heap.size w' w2) := fun w' => by rw [hv1]; exact name_v x1 z1 w'
        have N2 : Hid (∀ w', Calls Tryd.prog 23 #[.string x2] w' fun e w2 => e = .returned (.bool v2) ∧ Below w'.heap.size w' w2) := fun w' => by rw [hv2]; exact name_v x2 z2 w'
        simp only at hok
        rw [← hv1, ← hv2] at hok
        have HOK := Lib.hid hok
        clear hx hcs hmp hbl b5 hv1 hv2 hok
        go_upto_region 7 with fail
        rw [← hW5]
        try rw [← hg5]
        clear hW5 hg5 c0 c1
        obtain ⟨f0, f1⟩ : W5.cell? ⟨g5, 0, none⟩ = some (.string x1) ∧ W5.cell? ⟨g5, 1, none⟩ = some (.string x2) := by have := x5.out; constructor <;> simp [World.cell?, this]
        cases v1 with
        | false =>
          have HX := Lib.hid (HBad.out i hlt (by rw [HOK.out]; simp))
          go_wp2_with fail
          refine (N1.out _).mono ?_; rintro e w6 ⟨rfl, b6⟩
          have HB6 : Hid (Below w.heap.size w w6) := HB5.out.trans (b6.mono HB5.out.size)
          clear b6 f0 f1
          go_wp2_with fail
          go_ret
          exact ⟨ret_bool HX.out, HB6.out⟩
        | true =>
          go_wp2_with fail
          refine (N1.out _).mono ?_; rintro e w6 ⟨rfl, b6⟩
          have HB6 : Hid (Below w.heap.size w w6) := HB5.out.trans (b6.mono HB5.out.size)
          have HM6 := Lib.hid (HM5.out.below b6)
          have x6 := Lib.hid (carry2 x5.out b6)
          clear b6 f0 f1
          obtain ⟨f0, f1⟩ : w6.cell? ⟨g5, 0, none⟩ = some (.string x1) ∧ w6.cell? ⟨g5, 1, none⟩ = some (.string x2) := by have := x6.out; constructor <;> simp [World.cell?, this]
          cases v2 with
          | false =>
            have HX := Lib.hid (HBad.out i hlt (by rw [HOK.out]; simp))
            go_wp2_with fail
            refine (N2.out _).mono ?_; rintro e w7 ⟨rfl, b7⟩
            have HB7 : Hid (Below w.heap.size w w7) := HB6.out.trans (b7.mono HB6.out.size)
            clear b7 f0 f1
            go_wp2_with fail
            go_ret
            exact ⟨ret_bool HX.out, HB7.out⟩
          | true =>
            go_wp2_with fail
            refine (N2.out _).mono ?_; rintro e w7 ⟨rfl, b7⟩
            have HB7 : Hid (Below w.heap.size w w7) := HB6.out.trans (b7.mono HB6.out.size)
            have HM7 := Lib.hid (HM6.out.below b7)
            have x7 := Lib.hid (carry2 x6.out b7)
            clear b7 f0 f1
            obtain ⟨f0, f1⟩ : w7.cell? ⟨g5, 0, none⟩ = some (.string x1) ∧ w7.cell? ⟨g5, 1, none⟩ = some (.string x2) := by have := x7.out; constructor <;> simp [World.cell?, this]
            have lk := HM7.out.look z1
            obtain ⟨v3, hv3⟩ : ∃ v, v = inS x1 ((l.take i).map (·.1)) := ⟨_, rfl⟩
            rw [← hv3] at lk
            have HV3 := Lib.hid hv3
            clear hv3
            cases v3 with
            | true =>
              have HX := Lib.hid (HBad.out i hlt (by rw [HOK.out, ← HV3.out]; simp))
              go_wp2_with fail
              go_ret
              exact ⟨ret_bool HX.out, HB7.out⟩
            | false =>
              obtain ⟨w9, hrun, hm9, hg9⟩ := HM7.out.put z1 (by unfold maxLen; omega)
              have HM9 : Hid (MpS w9 w.heap.size (i + 1) ((l.take (i + 1)).map (·.1))) := by unfold Hid; rw [HT.out]; exact hm9
              have HB9 : Hid (Below w.heap.size w w9) := HB7.out.grown hg9 HB7.out.size (fun k e => by cases e; exact Nat.le_refl _)
              have HVA : Hid (vAt l (i + 1) = true) := by
                show (vAt l i && okA l i) = true
                rw [hva.out, HOK.out, ← HV3.out]
                rfl
              clear hm9 hg9
              go_wp2_with fail
              go_roundw
              case rel => exact ⟨i + 1, by omega, by go_num, HM9, HVA, HB9⟩
              case measure => simp [intOf]; omega
      · obtain rfl : i = n := by omega
        have hlt2 : ¬ (i : Int) < (i : Int) := by omega
        have HX := Lib.hid (HEnd.out hva.out)
        go_wp2_with fail
        go_ret
        exact ⟨ret_bool HX.out, hbl.out⟩
  · have h12I : (12 : Int) < (n : Int) := by omega
    have HX : Hid (false = vA l) := by unfold Hid vA; rw [decide_eq_false (by rw [← HN.out]; exact h12)]; rfl
    go_enter Tryd.func25, Tryd.ntmps25
    go_wp2_with fail
    go_ret
    exact ⟨ret_bool HX.out, Below.refl _ _⟩
end Go.Proofs.YtkedgkfdmdlhoaaDoor.P9
