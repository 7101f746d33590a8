import Derived.Test.YtobiepkhommeaaaGreatDoorQtysB
import Derived.Test.YtobiepkhommeaaaGreatDoorQtysM
import Derived.Deep.RegionWith
/- Quantities: the reference's units, cut and chosen. -/
namespace Go.Proofs.YtobiepkhommeaaaGreatDoor
open Go.RowKit

/-- a unit of the reference -/
def rv (u : Un) : Value := .agg #[.int .i64 u.dim, .string (txtB u.name), .int .i64 u.size]
def rz (u : Un) : List Value := [.int .i64 u.dim, .string (txtB u.name), .int .i64 u.size]
def RRow (w : World) (g : Nat) : Prop := w.heap[g]? = some (.cells (rU.flatMap rz).toArray 91 (0, 0))
theorem RRow.below {w w' : World} {g : Nat} (h : RRow w g) (b : Below w.heap.size w w') : RRow w' g := carry h b
theorem rflat_at : ∀ (us : List Un) (i : Nat), i < us.length → ∀ (j : Nat) (v : Value), (rz (us.getD i Un.nil))[j]? = some v → (us.flatMap rz)[3 * i + j]? = some v
  | [], i, h, _, _, _ => by simp at h
  | u :: r, 0, _, j, v, h => by
    rw [List.flatMap_cons, List.getElem?_append_left]
    · simpa using h
    · have : j < (rz ((u :: r).getD 0 Un.nil)).length := (List.getElem?_eq_some_iff.1 h).1
      simpa [rz] using this
  | u :: r, i + 1, hi, j, v, h => by
    rw [List.flatMap_cons, List.getElem?_append_right (by simp [rz]; omega), show 3 * (i + 1) + j - (rz u).length = 3 * i + j by simp [rz]; omega]
    exact rflat_at r i (by simpa using hi) j v (by simpa using h)
theorem RRow.at {w : World} {g : Nat} (h : RRow w g) {i : Nat} (hi : i < 10) :
    w.cell? ⟨g, i * 3, none⟩ = some (.int .i64 (rU.getD i Un.nil).dim) ∧ w.cell? ⟨g, i * 3 + 1, none⟩ = some (.string (txtB (rU.getD i Un.nil).name)) ∧ w.cell? ⟨g, i * 3 + 2, none⟩ = some (.int .i64 (rU.getD i Un.nil).size) := by
  unfold RRow at h
  have key : ∀ (j : Nat) (v : Value), (rz (rU.getD i Un.nil))[j]? = some v → w.cell? ⟨g, i * 3 + j, none⟩ = some v := fun j v hv => by
    have := rflat_at rU i hi j v hv
    rw [Nat.mul_comm] at this
    simp [World.cell?, h, this]
  exact ⟨key 0 _ rfl, key 1 _ rfl, key 2 _ rfl⟩
set_option maxHeartbeats 4000000 in
set_option maxRecDepth 100000 in
theorem runits_v (w : World) :
    Calls Tryz.prog 83 #[] w fun e w' => ∃ g, e = .returned (.slice (some ⟨g, 0, none⟩) 10 10) ∧ RRow w' g ∧ Below w.heap.size w w' := by
  have HR : Hid (RRow (w.alloc (.cells (rU.flatMap rz).toArray 91)) w.heap.size) := heap_alloc_new w _
  have HB := Lib.hid (below_new w (.cells (rU.flatMap rz).toArray 91))
  go_enter Tryz.func83, Tryz.ntmps83
  go_wp2_with fail
  go_ret
  exact ⟨_, rfl, HR.out, HB.out⟩

/- cut -/
theorem ret_cut {a b c d : ByteArray} {x y : Bool} (h1 : a = c) (h2 : b = d) (h3 : x = y) : Ending.returned (.tuple #[.string a, .string b, .bool x]) = .returned (.tuple #[.string c, .string d, .bool y]) := by rw [h1, h2, h3]
theorem occ_ext (s p : ByteArray) (i : Nat) (_ : i + p.size ≤ s.size) : ((s.extract i (i + p.size)).toList == p.toList) = Lib.occAt s.data.toList p.data.toList i := by
  have e1 : (s.extract i (i + p.size)).data.toList = (s.data.toList.drop i).take p.size := by
    rw [ByteArray.data_extract, Array.toList_extract]
    simp [List.extract]
  rw [ByteArray.toList_eq, ByteArray.toList_eq, e1]
  unfold Lib.occAt
  have hl : p.data.toList.length = p.size := size_list p
  rw [Bool.eq_iff_iff, beq_iff_eq, List.isPrefixOf_iff_prefix, List.prefix_iff_eq_take, hl]
  exact eq_comm
theorem cut_first {s p : ByteArray} {i : Nat} (hp : 1 ≤ p.size) (h : i + p.size ≤ s.size) (hit : Lib.occAt s.data.toList p.data.toList i = true) (hno : ∀ j : Nat, j < i → Lib.occAt s.data.toList p.data.toList j = false) :
    s.extract 0 i = txtB (Lib.cut s.data.toList p.data.toList).1 ∧ s.extract (i + p.size) s.size = txtB (Lib.cut s.data.toList p.data.toList).2.1 ∧ (Lib.cut s.data.toList p.data.toList).2.2 = true := by
  have hl : p.data.toList.length = p.size := size_list p
  have hls : s.data.toList.length = s.size := size_list s
  have hi : Lib.index s.data.toList p.data.toList = (i : Int) := Lib.index_first (by omega) hit hno
  have hc : Lib.cut s.data.toList p.data.toList = (s.data.toList.take i, s.data.toList.drop (i + p.size), true) := by
    unfold Lib.cut
    rw [hi, if_pos (by omega), Int.toNat_natCast, hl]
  rw [hc]
  refine ⟨?_, ?_, rfl⟩
  · apply bytes_ext
    rw [txtB_list, ByteArray.data_extract, Array.toList_extract]
    simp [List.extract]
  · apply bytes_ext
    rw [txtB_list, ByteArray.data_extract, Array.toList_extract]
    simp [List.extract]
    rw [List.take_of_length_le (by rw [List.length_drop]; omega)]
theorem cut_miss {s p : ByteArray} {i : Nat} (h : ¬ i + p.size ≤ s.size) (hno : ∀ j : Nat, j < i → Lib.occAt s.data.toList p.data.toList j = false) :
    s = txtB (Lib.cut s.data.toList p.data.toList).1 ∧ ⟨#[]⟩ = txtB (Lib.cut s.data.toList p.data.toList).2.1 ∧ (Lib.cut s.data.toList p.data.toList).2.2 = false := by
  have hl : p.data.toList.length = p.size := size_list p
  have hls : s.data.toList.length = s.size := size_list s
  have hc : Lib.cut s.data.toList p.data.toList = (s.data.toList, [], false) := cut_none (fun j hj => by
    rcases Nat.lt_or_ge j i with k | k
    · exact hno j k
    · rw [Bool.eq_false_iff]
      intro ho
      unfold Lib.occAt at ho
      have := (List.isPrefixOf_iff_prefix.1 ho).length_le
      rw [List.length_drop] at this
      omega)
  rw [hc]
  exact ⟨bytes_ext (by rw [txtB_list]), rfl, rfl⟩

set_option maxHeartbeats 8000000 in
set_option maxRecDepth 100000 in
theorem rcut_v (s p : ByteArray) (l q : List UInt8) (w : World) (hs : s.size ≤ 1000) (hp : 1 ≤ p.size) (hp3 : p.size ≤ 3) (hl : l = s.data.toList) (hq : q = p.data.toList) :
    Calls Tryz.prog 78 #[.string s, .string p] w fun e w' => e = .returned (.tuple #[.string (txtB (Lib.cut l q).1), .string (txtB (Lib.cut l q).2.1), .bool (Lib.cut l q).2.2]) ∧ Below w.heap.size w w' := by
  subst hl hq
  obtain ⟨n, hn⟩ : ∃ n, n = s.size := ⟨_, rfl⟩
  obtain ⟨m, hm⟩ : ∃ m, m = p.size := ⟨_, rfl⟩
  obtain ⟨A, hA⟩ : ∃ A, A = txtB (Lib.cut s.data.toList p.data.toList).1 := ⟨_, rfl⟩
  obtain ⟨B, hB⟩ : ∃ B, B = txtB (Lib.cut s.data.toList p.data.toList).2.1 := ⟨_, rfl⟩
  obtain ⟨b, hb⟩ : ∃ b, b = (Lib.cut s.data.toList p.data.toList).2.2 := ⟨_, rfl⟩
  obtain ⟨oc, hoc⟩ : ∃ oc : Nat → Bool, oc = fun j => Lib.occAt s.data.toList p.data.toList j := ⟨_, rfl⟩
  have HIT : Hid (∀ i : Nat, i + m ≤ n → oc i = true → (∀ j : Nat, j < i → oc j = false) → s.extract 0 i = A ∧ s.extract (i + m) n = B ∧ true = b) := fun i h1 h2 h3 => by
    rw [hA, hB, hb, hn, hm]
    rw [hn, hm] at h1
    rw [hoc] at h2 h3
    have := cut_first hp h1 h2 h3
    exact ⟨this.1, this.2.1, this.2.2.symm⟩
  have MISS : Hid (∀ i : Nat, ¬ i + m ≤ n → (∀ j : Nat, j < i → oc j = false) → s = A ∧ ⟨#[]⟩ = B ∧ false = b) := fun i h1 h3 => by
    rw [hA, hB, hb]
    rw [hn, hm] at h1
    rw [hoc] at h3
    have := cut_miss h1 h3
    exact ⟨this.1, this.2.1, this.2.2.symm⟩
  have OCC : Hid (∀ i : Nat, i + m ≤ n → ((s.extract i (i + m)).toList == p.toList) = oc i) := fun i h => by
    rw [hoc, hm]
    rw [hn, hm] at h
    exact occ_ext s p i h
  rw [← hA, ← hB, ← hb]
  have hsn : s.size = n := hn.symm
  have hpm : p.size = m := hm.symm
  rw [← hn] at hs
  rw [← hm] at hp hp3
  clear hA hB hb hoc hn hm
  go_enter Tryz.func78, Tryz.ntmps78
  go_wp2_with fail
  go_loopw [7] (fun s7 wr => ∃ i : Nat, i ≤ n + 1 ∧ s7 = .int .i64 (i : Int) ∧ Hid (∀ j : Nat, j < i → oc j = false) ∧ wr = w) (fun s7 _ => n + 1 - (intOf s7).toNat)
  case atStart => exact ⟨0, by omega, rfl, fun j hj => absurd hj (Nat.not_lt_zero _), rfl⟩
  case round =>
    obtain ⟨i, hi, rfl, hno, rfl⟩ := hrel
    by_cases hr : i + m ≤ n
    · have hri : (i : Int) + (m : Int) ≤ (n : Int) := by omega
      have hil : i ≤ n := by omega
      have hnl : ¬ n < i := by omega
      have hnm : ¬ n < i + m := by omega
      have hww : IntKind.i64.wrap ((i : Int) + (m : Int)) = (i : Int) + (m : Int) := IntWalk.i64_in _ (by omega)
      have hto : ((i : Int) + (m : Int)).toNat = i + m := by omega
      have hnI : ¬ (n : Int) < (i : Int) + (m : Int) := by omega
      have h0I : ¬ (i : Int) + (m : Int) < 0 := by omega
      have h0J : 0 ≤ (i : Int) + (m : Int) := by omega
      have hoc := OCC.out i hr
      obtain ⟨o, ho⟩ : ∃ o, o = oc i := ⟨_, rfl⟩
      rw [← ho] at hoc
      cases o with
      | true =>
        obtain ⟨e1, e2, e3⟩ := HIT.out i hr ho.symm hno.out
        have E1 := Lib.hid e1
        have E2 := Lib.hid e2
        have E3 := Lib.hid e3
        clear e1 e2 e3 ho
        go_wp2_with fail
        refine wp_region_held_drew (S := fun w' => Below wr.heap.size wr w') (by kernel_rfl) ((Below.refl _ _).drew) (fun hH => ?_)
        refine wpAnyH_take (i := 0) (v := (.string s)) rfl (by kernel_rfl) (by kernel_rfl) (by kernel_rfl) (fun _ _ _ h => h) (Or.inl ⟨by kernel_rfl, ?_⟩) hH ?_
        · intro w1 hB
          go_simp
        change wpAnyH _ _ _ _ _ _ _ (Act.put _ (some 26) _) _
        try simp only [Act.put, List.setIfInBounds_toArray, List.set_cons_zero, List.set_cons_succ]
        refine wpAnyH_take (i := 1) (v := (.int .i64 (i : Int))) rfl (by kernel_rfl) (by kernel_rfl) (by kernel_rfl) (fun _ _ _ h => h) (Or.inl ⟨by kernel_rfl, ?_⟩) hH ?_
        · intro w1 hB
          go_simp
        change wpAnyH _ _ _ _ _ _ _ (Act.put _ (some 27) _) _
        try simp only [Act.put, List.setIfInBounds_toArray, List.set_cons_zero, List.set_cons_succ]
        refine wpAnyH_take (i := 2) (v := (.string (s.extract 0 i))) rfl (by kernel_rfl) (by kernel_rfl) (by kernel_rfl) (fun _ _ _ h => h) (Or.inl ⟨by kernel_rfl, ?_⟩) hH ?_
        · intro w1 hB
          go_simp
        change wpAnyH _ _ _ _ _ _ _ (Act.put _ (some 28) _) _
        try simp only [Act.put, List.setIfInBounds_toArray, List.set_cons_zero, List.set_cons_succ]
        refine wpAnyH_take (i := 3) (v := (.string s)) rfl (by kernel_rfl) (by kernel_rfl) (by kernel_rfl) (fun _ _ _ h => h) (Or.inl ⟨by kernel_rfl, ?_⟩) hH ?_
        · intro w1 hB
          go_simp
        change wpAnyH _ _ _ _ _ _ _ (Act.put _ (some 29) _) _
        try simp only [Act.put, List.setIfInBounds_toArray, List.set_cons_zero, List.set_cons_succ]
        refine wpAnyH_take (i := 4) (v := (.int .i64 (i : Int))) rfl (by kernel_rfl) (by kernel_rfl) (by kernel_rfl) (fun _ _ _ h => h) (Or.inl ⟨by kernel_rfl, ?_⟩) hH ?_
        · intro w1 hB
          go_simp
        change wpAnyH _ _ _ _ _ _ _ (Act.put _ (some 30) _) _
        try simp only [Act.put, List.setIfInBounds_toArray, List.set_cons_zero, List.set_cons_succ]
        refine wpAnyH_take (i := 5) (v := (.string p)) rfl (by kernel_rfl) (by kernel_rfl) (by kernel_rfl) (fun _ _ _ h => h) (Or.inl ⟨by kernel_rfl, ?_⟩) hH ?_
        · intro w1 hB
          go_simp
        change wpAnyH _ _ _ _ _ _ _ (Act.put _ (some 31) _) _
        try simp only [Act.put, List.setIfInBounds_toArray, List.set_cons_zero, List.set_cons_succ]
        refine wpAnyH_take (i := 6) (v := (.int .i64 (m : Int))) rfl (by kernel_rfl) (by kernel_rfl) (by kernel_rfl) (fun _ _ _ h => h) (Or.inl ⟨by kernel_rfl, ?_⟩) hH ?_
        · intro w1 hB
          go_simp
        change wpAnyH _ _ _ _ _ _ _ (Act.put _ (some 32) _) _
        try simp only [Act.put, List.setIfInBounds_toArray, List.set_cons_zero, List.set_cons_succ]
        refine wpAnyH_take (i := 7) (v := (.int .i64 ((i : Int) + (m : Int)))) rfl (by kernel_rfl) (by kernel_rfl) (by kernel_rfl) (fun _ _ _ h => h) (Or.inl ⟨by kernel_rfl, ?_⟩) hH ?_
        · intro w1 hB
          go_simp
        change wpAnyH _ _ _ _ _ _ _ (Act.put _ (some 33) _) _
        try simp only [Act.put, List.setIfInBounds_toArray, List.set_cons_zero, List.set_cons_succ]
        refine wpAnyH_take (i := 8) (v := (.string (s.extract (i + m) n))) rfl (by kernel_rfl) (by kernel_rfl) (by kernel_rfl) (fun _ _ _ h => h) (Or.inl ⟨by kernel_rfl, ?_⟩) hH ?_
        · intro w1 hB
          go_simp
        change wpAnyH _ _ _ _ _ _ _ (Act.put _ (some 34) _) _
        try simp only [Act.put, List.setIfInBounds_toArray, List.set_cons_zero, List.set_cons_succ]
        refine wpAnyH_take (i := 9) (v := (.string (s.extract 0 i))) rfl (by kernel_rfl) (by kernel_rfl) (by kernel_rfl) (fun _ _ _ h => h) (Or.inl ⟨by kernel_rfl, ?_⟩) hH ?_
        · intro w1 hB
          go_simp
        change wpAnyH _ _ _ _ _ _ _ (Act.put _ (some 4) _) _
        try simp only [Act.put, List.setIfInBounds_toArray, List.set_cons_zero, List.set_cons_succ]
        refine wpAnyH_take (i := 10) (v := (.string (s.extract (i + m) n))) rfl (by kernel_rfl) (by kernel_rfl) (by kernel_rfl) (fun _ _ _ h => h) (Or.inl ⟨by kernel_rfl, ?_⟩) hH ?_
        · intro w1 hB
          go_simp
        change wpAnyH _ _ _ _ _ _ _ (Act.put _ (some 5) _) _
        try simp only [Act.put, List.setIfInBounds_toArray, List.set_cons_zero, List.set_cons_succ]
        refine wpAnyH_take (i := 11) (v := (.bool true)) rfl (by kernel_rfl) (by kernel_rfl) (by kernel_rfl) (fun _ _ _ h => h) (Or.inl ⟨by kernel_rfl, ?_⟩) hH ?_
        · intro w1 hB
          go_simp
        change wpAnyH _ _ _ _ _ _ _ (Act.put _ (some 6) _) _
        try simp only [Act.put, List.setIfInBounds_toArray, List.set_cons_zero, List.set_cons_succ]
        refine wpAnyH_done (by kernel_rfl) ?_ _
        go_wp2_with fail
        go_ret3
        exact ⟨ret_cut E1.out E2.out E3.out, (Below.refl _ _).drew⟩
      | false =>
        have HN : Hid (∀ j : Nat, j < i + 1 → oc j = false) := fun j hj => by
          rcases Nat.lt_or_ge j i with k | k
          · exact hno.out j k
          · obtain rfl : j = i := by omega
            exact ho.symm
        clear ho
        go_wp2_with fail
        go_roundw
        case rel => exact ⟨i + 1, by omega, by go_num, HN, by first | rfl | trivial⟩
        case measure => simp [intOf]; omega
    · have hri : ¬ (i : Int) + (m : Int) ≤ (n : Int) := by omega
      obtain ⟨e1, e2, e3⟩ := MISS.out i hr hno.out
      have E1 := Lib.hid e1
      have E2 := Lib.hid e2
      have E3 := Lib.hid e3
      clear e1 e2 e3
      go_wp2_with fail
      go_ret3
      exact ⟨ret_cut E1.out E2.out E3.out, Below.refl _ _⟩
end Go.Proofs.YtobiepkhommeaaaGreatDoor
/- Quantities: the unit that the reference chooses. -/
namespace Go.Proofs.YtobiepkhommeaaaGreatDoor
open Go.RowKit

def OBox (w : World) (g : Nat) (o : Un) : Prop := w.heap[g]? = some (.cells #[.int .i64 o.dim, .string (txtB o.name), .int .i64 o.size] 91 (0, 0))
structure ChSt (w : World) (g0 g : Nat) (d c a : Int) (o : Un) (wr : World) : Prop where
  q : wr.heap[g0]? = some (.cells #[.int .i64 d, .int .i64 c, .int .i64 a] 39 (0, 0))
  r : OBox wr (g0 + 1) Un.nil
  o : OBox wr (g0 + 1 + 1) o
  row : RRow wr g
  b : Below g0 w wr
theorem ChSt.below {w : World} {g0 g : Nat} {d c a : Int} {o : Un} {wr wx : World} (h : ChSt w g0 g d c a o wr) (hb : Below wr.heap.size wr wx) : ChSt w g0 g d c a o wx :=
  ⟨carry h.q hb, carry h.r hb, carry h.o hb, carry h.row hb, h.b.trans (hb.mono (by have := (Array.getElem?_eq_some_iff.1 h.q).1; omega))⟩
theorem ChSt.ne {w : World} {g0 g : Nat} {d c a : Int} {o : Un} {wr : World} (h : ChSt w g0 g d c a o wr) : g ≠ g0 + 1 + 1 := by
  intro e
  have h1 := h.row
  have h2 := h.o
  unfold RRow at h1
  unfold OBox at h2
  rw [e, h2] at h1
  simp [rU, rz] at h1
theorem ChSt.set {w : World} {g0 g : Nat} {d c a : Int} {o : Un} {wr : World} (h : ChSt w g0 g d c a o wr) (u : Un) : ChSt w g0 g d c a u (((wr.setCell ⟨g0 + 1 + 1, 0, none⟩ (.int .i64 u.dim)).setCell ⟨g0 + 1 + 1, 1, none⟩ (.string (txtB u.name))).setCell ⟨g0 + 1 + 1, 2, none⟩ (.int .i64 u.size)) := by
  have ho := h.o
  unfold OBox at ho
  refine ⟨(set3_off (by omega) _ _ _).trans h.q, (set3_off (by omega) _ _ _).trans h.r, ?_, (set3_off h.ne _ _ _).trans h.row, below3 h.b (by omega) _ _ _⟩
  unfold OBox
  simp [World.setCell, Array.getElem?_modify, ho]
theorem ChSt.lt {w : World} {g0 g : Nat} {d c a : Int} {o : Un} {wr : World} (h : ChSt w g0 g d c a o wr) : g0 + 1 + 1 < wr.heap.size := (Array.getElem?_eq_some_iff.1 h.o).1
theorem ten_of {u : Un} (hu : u ∈ cU) (hf : u.flag = true) : u.size = 10 := by
  simp only [cU, List.mem_cons, List.not_mem_nil, or_false] at hu
  rcases hu with rfl | rfl | rfl | rfl | rfl | rfl | rfl | rfl | rfl | rfl <;> simp_all

set_option maxHeartbeats 16000000 in
set_option maxRecDepth 100000 in
theorem rchosen_v (d c a : Int) (h1 : 1 ≤ d) (h2 : d ≤ 4) (h3 : 1 ≤ a) (h4 : a ≤ 1099511627776) (w : World) :
    Calls Tryz.prog 67 #[.agg #[.int .i64 d, .int .i64 c, .int .i64 a]] w fun e w' => e = .returned (rv (forU d a)) ∧ Below w.heap.size w w' := by
  have HF : Hid (chF d a 10 = forU d a) := chF_all h1 h2 h3
  obtain ⟨Wa, hWa⟩ : ∃ W, W = w.alloc (.cells #[.int .i64 d, .int .i64 c, .int .i64 a] 39) := ⟨_, rfl⟩
  obtain ⟨Wb, hWb⟩ : ∃ W, W = Wa.alloc (.cells #[.int .i64 0, .string ⟨#[]⟩, .int .i64 0] 91) := ⟨_, rfl⟩
  obtain ⟨W1, hW1⟩ : ∃ W, W = Wb.alloc (.cells #[.int .i64 0, .string ⟨#[]⟩, .int .i64 0] 91) := ⟨_, rfl⟩
  have s1 : Wa.heap.size = w.heap.size + 1 := by rw [hWa]; exact World.size_alloc _ _
  have s2 : Wb.heap.size = w.heap.size + 1 + 1 := by rw [hWb, World.size_alloc, s1]
  have B0 : Below w.heap.size w Wa := by rw [hWa]; exact below_new _ _
  have B1 : Below Wa.heap.size Wa Wb := by rw [hWb]; exact below_new _ _
  have B2 : Below Wb.heap.size Wb W1 := by rw [hW1]; exact below_new _ _
  have y0 : Wa.heap[w.heap.size]? = some (.cells #[.int .i64 d, .int .i64 c, .int .i64 a] 39 (0, 0)) := by rw [hWa]; exact heap_alloc_new _ _
  have y1 : Wb.heap[w.heap.size + 1]? = some (.cells #[.int .i64 0, .string ⟨#[]⟩, .int .i64 0] 91 (0, 0)) := by rw [hWb, ← s1]; exact heap_alloc_new _ _
  have x1 : W1.heap[w.heap.size + 1 + 1]? = some (.cells #[.int .i64 0, .string ⟨#[]⟩, .int .i64 0] 91 (0, 0)) := by rw [hW1, ← s2]; exact heap_alloc_new _ _
  have BB : Below w.heap.size w W1 := (B0.trans (B1.mono B0.size)).trans (B2.mono (Nat.le_trans B0.size B1.size))
  have ST0 : Hid (∀ g wx, RRow wx g → Below W1.heap.size W1 wx → ChSt w w.heap.size g d c a Un.nil wx) := fun g wx hr hb => ⟨carry (carry (carry y0 B1) B2) hb, carry (carry y1 B2) hb, carry x1 hb, hr, BB.trans (hb.mono BB.size)⟩
  clear s1 s2 B0 B1 B2 y0 y1 x1 BB
  go_enter Tryz.func67, Tryz.ntmps67
  go_wp2_with fail
  rw [← hWa, ← hWb, ← hW1]
  clear hW1 hWb hWa
  refine (runits_v _).mono ?_; rintro e W2 ⟨g, rfl, hrow, b2⟩
  have ST2 := Lib.hid (ST0.out g W2 hrow b2)
  clear hrow b2
  go_wp2_with fail
  go_loopw [10] (fun s10 wr => ∃ i : Nat, i ≤ 10 ∧ s10 = .int .i64 (i : Int) ∧ Hid (ChSt w w.heap.size g d c a (chF d a i) wr)) (fun s10 _ => 10 - (intOf s10).toNat)
  case atStart => exact ⟨0, by omega, rfl, ST2.out⟩
  case round =>
    obtain ⟨i, hi, rfl, hst⟩ := hrel
    have hszr := hst.out.lt
    have hq := hst.out.q
    have hO := hst.out.o
    unfold OBox at hO
    obtain ⟨k0, k1, k2, _⟩ := at_blockQ hq
    obtain ⟨o0, o1, o2, p0, p1, p2⟩ := at_blockQ hO
    by_cases hlt : i < 10
    · have hlt2 : (i : Int) < 10 := by omega
      obtain ⟨u, hu⟩ : ∃ u, u = rU.getD i Un.nil := ⟨_, rfl⟩
      have hmem : u ∈ cU := by rw [hu]; exact rU_mem hlt
      obtain ⟨c0, c1, c2⟩ := RRow.at hst.out.row hlt
      rw [← hu] at c0 c1 c2
      obtain ⟨o, ho⟩ : ∃ o, o = chF d a i := ⟨_, rfl⟩
      have hsucc : chF d a (i + 1) = chStep d a o u := by rw [chF_succ hlt, ← hu, ← ho]
      rw [← ho] at o0 o1 o2
      have STA : Hid (ChSt w w.heap.size g d c a o (wr.alloc (.cells #[.int .i64 u.dim, .string (txtB u.name), .int .i64 u.size] 91))) := by rw [ho]; exact hst.out.below (below_new _ _)
      have hfl := flag_name hmem
      have h10 := ten_of hmem
      obtain ⟨_, _, _, _, _, _⟩ := un_size hmem
      rename_i hz1 hz2 _ _ _ _
      obtain ⟨N, hN⟩ : ∃ N, N = txtB u.name := ⟨_, rfl⟩
      obtain ⟨dm, hdm⟩ : ∃ x, x = u.dim := ⟨_, rfl⟩
      obtain ⟨z, hz⟩ : ∃ x, x = u.size := ⟨_, rfl⟩
      obtain ⟨fl, hfg⟩ : ∃ x, x = u.flag := ⟨_, rfl⟩
      obtain ⟨od, hod⟩ : ∃ x, x = o.dim := ⟨_, rfl⟩
      obtain ⟨oN, hoN⟩ : ∃ x, x = txtB o.name := ⟨_, rfl⟩
      obtain ⟨oz, hoz⟩ : ∃ x, x = o.size := ⟨_, rfl⟩
      obtain ⟨b1, hb1⟩ : ∃ x, x = (u.name == [99, 108]) := ⟨_, rfl⟩
      obtain ⟨b2, hb2⟩ : ∃ x, x = (u.name == [99, 109]) := ⟨_, rfl⟩
      have hc1 : (N.toList == [99, 108]) = b1 := by rw [hN, ByteArray.toList_eq, txtB_list, hb1]
      have hc2 : (N.toList == [99, 109]) = b2 := by rw [hN, ByteArray.toList_eq, txtB_list, hb2]
      rw [← hb1, ← hb2, ← hfg] at hfl
      rw [← hfg, ← hz] at h10
      have SAME : Hid (chStep d a o u = o → Hid (ChSt w w.heap.size g d c a (chF d a (i + 1)) (wr.alloc (.cells #[.int .i64 dm, .string N, .int .i64 z] 91)))) := fun e => by
        unfold Hid at STA ⊢
        rw [hsucc, e, hdm, hN, hz]; exact STA
      have SETU : Hid (chStep d a o u = u → Hid (ChSt w w.heap.size g d c a (chF d a (i + 1)) ((((wr.setCell ⟨w.heap.size + 1 + 1, 0, none⟩ (.int .i64 dm)).setCell ⟨w.heap.size + 1 + 1, 1, none⟩ (.string N)).setCell ⟨w.heap.size + 1 + 1, 2, none⟩ (.int .i64 z)).alloc (.cells #[.int .i64 dm, .string N, .int .i64 z] 91)))) := fun e => by
        have := (hst.out.set u).below (below_new _ (.cells #[.int .i64 u.dim, .string (txtB u.name), .int .i64 u.size] 91))
        unfold Hid
        rw [hsucc, e, hdm, hN, hz]; exact this
      have C0 : dm ≠ d → chStep d a o u = o := fun h => by rw [hdm] at h; exact if_neg h
      have C1 : dm = d → (oz = 0 ∨ z ≤ a ∧ (fl = false ∨ a % z = 0)) → chStep d a o u = u := fun h h' => by
        rw [hdm] at h
        rw [hoz, hz, hfg] at h'
        exact (if_pos h).trans (if_pos h')
      have C2 : dm = d → ¬ (oz = 0 ∨ z ≤ a ∧ (fl = false ∨ a % z = 0)) → chStep d a o u = o := fun h h' => by
        rw [hdm] at h
        rw [hoz, hz, hfg] at h'
        exact (if_pos h).trans (if_neg h')
      rw [← hdm] at c0
      rw [← hN] at c1
      rw [← hz] at c2 hz1 hz2
      rw [← hod] at o0
      rw [← hoN] at o1
      rw [← hoz] at o2
      have hne0 : w.heap.size ≠ wr.heap.size := by omega
      have hg0 : w.heap.size < wr.heap.size := by omega
      have hne2 : w.heap.size + 1 + 1 ≠ wr.heap.size := by omega
      have HST := Lib.hid hst
      have HLT := Lib.hid hlt
      clear hu hmem ho hsucc hN hdm hz hfg hod hoN hoz hb1 hb2 STA hq hO hst
      by_cases hdd : dm = d
      · have C1 := C1 hdd
        have C2 := C2 hdd
        subst hdd
        by_cases hz0 : oz = 0
        · subst hz0
          have STU := SETU.out (C1 (.inl rfl))
          clear C0 C1 C2 h10 SAME SETU
          rcases hfl' : b1 with _ | _
          · rcases hfl'' : b2 with _ | _
            · subst hfl' hfl''
              clear hfl
              go_wp2_with fail
              go_roundw
              case rel => exact ⟨i + 1, by omega, by go_num, STU⟩
              case measure => simp [intOf]; omega
            · subst hfl' hfl''
              clear hfl
              go_wp2_with fail
              go_roundw
              case rel => exact ⟨i + 1, by omega, by go_num, STU⟩
              case measure => simp [intOf]; omega
          · subst hfl'
            clear hfl
            go_wp2_with fail
            go_roundw
            case rel => exact ⟨i + 1, by omega, by go_num, STU⟩
            case measure => simp [intOf]; omega
        · have hzb : (oz == 0) = false := by simp [hz0]
          by_cases hle : z ≤ a
          · cases fl with
            | false =>
              have hb1 : b1 = false := by revert hfl; cases b1 <;> cases b2 <;> simp
              have hb2 : b2 = false := by revert hfl; cases b1 <;> cases b2 <;> simp
              subst hb1 hb2
              have STU := SETU.out (C1 (.inr ⟨hle, .inl rfl⟩))
              clear C0 C1 C2 h10 SAME SETU hz0 hfl
              go_wp2_with fail
              go_roundw
              case rel => exact ⟨i + 1, by omega, by go_num, STU⟩
              case measure => simp [intOf]; omega
            | true =>
              obtain rfl : z = 10 := h10 rfl
              obtain ⟨r, hr⟩ : ∃ r, r = a % 10 := ⟨_, rfl⟩
              have hr0 : 0 ≤ r ∧ r < 10 := by omega
              have ht : Int.tmod a 10 = r := by rw [Int.tmod_eq_emod_of_nonneg (by omega), hr]
              have hw : IntKind.i64.wrap r = r := IntWalk.i64_in _ (by omega)
              by_cases hr1 : r = 0
              · have hrb : (r == 0) = true := by simp [hr1]
                have STU := SETU.out (C1 (.inr ⟨hle, .inr (by rw [← hr]; exact hr1)⟩))
                clear C0 C1 C2 h10 SAME SETU hz0 hr1 hr
                rcases hfl' : b1 with _ | _
                · obtain rfl : b2 = true := by rw [hfl'] at hfl; simpa using hfl.symm
                  subst hfl'
                  clear hfl
                  go_wp2_with fail
                  go_roundw
                  case rel => exact ⟨i + 1, by omega, by go_num, STU⟩
                  case measure => simp [intOf]; omega
                · subst hfl'
                  clear hfl
                  go_wp2_with fail
                  go_roundw
                  case rel => exact ⟨i + 1, by omega, by go_num, STU⟩
                  case measure => simp [intOf]; omega
              · have hrb : (r == 0) = false := by simp [hr1]
                have STS := SAME.out (C2 (by
                  rintro (k | ⟨_, k | k⟩)
                  · exact hz0 k
                  · cases k
                  · rw [← hr] at k; exact hr1 k))
                clear C0 C1 C2 h10 SAME SETU hz0 hr1 hr
                rcases hfl' : b1 with _ | _
                · obtain rfl : b2 = true := by rw [hfl'] at hfl; simpa using hfl.symm
                  subst hfl'
                  clear hfl
                  go_wp2_with fail
                  go_roundw
                  case rel => exact ⟨i + 1, by omega, by go_num, STS⟩
                  case measure => simp [intOf]; omega
                · subst hfl'
                  clear hfl
                  go_wp2_with fail
                  go_roundw
                  case rel => exact ⟨i + 1, by omega, by go_num, STS⟩
                  case measure => simp [intOf]; omega
          · have STS := SAME.out (C2 (by
              rintro (k | ⟨k, _⟩)
              · exact hz0 k
              · exact hle k))
            clear C0 C1 C2 h10 SAME SETU hz0
            rcases hfl' : b1 with _ | _
            · rcases hfl'' : b2 with _ | _
              · subst hfl' hfl''
                clear hfl
                go_wp2_with fail
                go_roundw
                case rel => exact ⟨i + 1, by omega, by go_num, STS⟩
                case measure => simp [intOf]; omega
              · subst hfl' hfl''
                clear hfl
                go_wp2_with fail
                go_roundw
                case rel => exact ⟨i + 1, by omega, by go_num, STS⟩
                case measure => simp [intOf]; omega
            · subst hfl'
              clear hfl
              go_wp2_with fail
              go_roundw
              case rel => exact ⟨i + 1, by omega, by go_num, STS⟩
              case measure => simp [intOf]; omega
      · have hddb : (dm != d) = true := by simp [hdd]
        have hdde : (dm == d) = false := by simp [hdd]
        have hddn : ¬ dm = d := hdd
        have STS := SAME.out (C0 hdd)
        clear C0 C1 C2 h10 SAME SETU hdd hfl
        go_wp2_with fail
        go_roundw
        case rel => exact ⟨i + 1, by omega, by go_num, STS⟩
        case measure => simp [intOf]; omega
    · obtain rfl : i = 10 := by omega
      have hr := hst.out.r
      unfold OBox at hr
      obtain ⟨r0, r1, r2, q0, q1, q2⟩ := at_blockQ hr
      have HB := Lib.hid hst.out.b
      have HE := HF.out
      rw [HE] at o0 o1 o2
      obtain ⟨v, hv⟩ : ∃ v, v = forU d a := ⟨_, rfl⟩
      rw [← hv] at o0 o1 o2
      obtain ⟨N, hN⟩ : ∃ N, N = txtB v.name := ⟨_, rfl⟩
      obtain ⟨dm, hdm⟩ : ∃ x, x = v.dim := ⟨_, rfl⟩
      obtain ⟨z, hz⟩ : ∃ x, x = v.size := ⟨_, rfl⟩
      have HV : Hid (Value.agg #[.int .i64 dm, .string N, .int .i64 z] = rv (forU d a)) := by unfold Hid; rw [← hv, hN, hdm, hz]; rfl
      rw [← hN] at o1
      rw [← hdm] at o0
      rw [← hz] at o2
      clear hN hdm hz hv HE hst hq hO hr k0 k1 k2
      go_wp2_with fail
      refine bodyPost_ret (v := .agg #[.int .i64 dm, .string N, .int .i64 z]) (by simp [results, Tryz.results67, go_sem, r0, r1, r2]) rfl ?_
      exact ⟨congrArg Ending.returned HV.out, below3 HB.out (by omega) _ _ _⟩
end Go.Proofs.YtobiepkhommeaaaGreatDoor
