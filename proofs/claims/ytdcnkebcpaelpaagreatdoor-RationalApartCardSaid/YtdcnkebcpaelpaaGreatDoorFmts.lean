import Derived.Test.YtdcnkebcpaelpaaGreatDoorNats
import Derived.Test.YtdcnkebcpaelpaaGreatDoorShelf
import Derived.Lib.ItoaMem
import Derived.Lib.AppendIntMem
import Derived.Maps.AppendAt
import Derived.Deep.LoopGhost
import Derived.Lib.ItoaNum
/- Contracts of strings.Builder's writing methods over this program (the shelf's do not lie over it: the refused panic of copyCheck), and of strconv.FormatUint. -/
namespace Go.Proofs.YtdcnkebcpaelpaaGreatDoor
open Go.RowKit

theorem sizeBld : (Tryz.prog.info? 85).map (·.size) = some 2 := by kernel_rfl
theorem infoU8 : (Tryz.prog.info? 5).map (fun i => (i.zero, i.size, i.bytes)) = some (some (.int .u8 0), 1, 1) := by kernel_rfl

set_option maxHeartbeats 1000000 in
set_option maxRecDepth 100000 in
theorem copyCheck_fresh (b : Nat) (w : World) (h0 : w.cell? ⟨b, 0, none⟩ = some (.pointer none)) (hsh : w.shape? b = some (85, 2)) (hfz : w.frozen? ⟨b, 0, none⟩ = false) :
    Calls Tryz.prog 87 #[.pointer (some ⟨b, 0, none⟩)] w fun e w' => e = .returned (.tuple #[]) ∧ w' = w.setCell ⟨b, 0, none⟩ (.pointer (some ⟨b, 0, none⟩)) := by
  obtain ⟨j, hj, hjs⟩ := Option.map_eq_some_iff.1 sizeBld
  go_enter Tryz.func87, Tryz.ntmps87
  go_wp2
  rw [Lib.run_to_unsafe w ⟨b, 0, none⟩ Tryz.underlying82 Tryz.underlying114 hj (by rw [hjs]; decide) hsh (Nat.zero_lt_succ 1)]
  simp only [Result.andThen]
  rw [Oper.upon_value]
  go_wp2
  rw [run_callFunc_extern Tryz.func97 (by kernel_rfl) (by kernel_rfl) (by kernel_rfl) (e := Extern.AbiNoEscape.same) (by kernel_rfl)]
  rw [Lib.run_noEscape]
  simp only [Result.andThen]
  rw [Oper.upon_value]
  go_wp2
  rw [Lib.run_from_unsafe w ⟨b, 0, none⟩ Tryz.underlying114 Tryz.underlying82 hj hsh (by kernel_rfl)]
  simp only [Result.andThen]
  rw [Oper.upon_value]
  go_wp2
  go_end0
  exact ⟨rfl, rfl⟩

set_option maxHeartbeats 1000000 in
set_option maxRecDepth 100000 in
theorem copyCheck_used (b : Nat) (w : World) (h0 : w.cell? ⟨b, 0, none⟩ = some (.pointer (some ⟨b, 0, none⟩))) :
    Calls Tryz.prog 87 #[.pointer (some ⟨b, 0, none⟩)] w fun e w' => e = .returned (.tuple #[]) ∧ w' = w := by
  obtain ⟨j, hj, _⟩ := Option.map_eq_some_iff.1 sizeBld
  go_enter Tryz.func87, Tryz.ntmps87
  go_wp2
  rw [Lib.run_neq_ptr_same w _ Tryz.underlying82 hj]
  go_wp2
  go_end0
  exact ⟨rfl, rfl⟩

theorem copyCheck_any (B b : Nat) (bs : List Value) (w : World) (h : Lib.IsBuilderF 85 5 B b bs w) :
    Calls Tryz.prog 87 #[.pointer (some ⟨b, 0, none⟩)] w fun e w' => e = .returned (.tuple #[]) ∧ (Lib.BuilderAtF 85 5 B b (.pointer (some ⟨b, 0, none⟩)) bs w' ∧ Below B w w') := by
  rcases h with h | h
  · refine (copyCheck_fresh b w h.cell0 h.shape h.frozen0).mono ?_
    rintro e w' ⟨rfl, rfl⟩
    exact ⟨rfl, h.used _, (Below.refl B w).setCell (p := ⟨b, 0, none⟩) h.1 _⟩
  · refine (copyCheck_used b w h.cell0).mono ?_
    rintro e w' ⟨rfl, rfl⟩
    exact ⟨rfl, h, Below.refl B _⟩

set_option maxHeartbeats 2000000 in
set_option maxRecDepth 100000 in
theorem WriteString_any (B b : Nat) (bs : List Value) (s : ByteArray) (w : World) (h : Lib.IsBuilderF 85 5 B b bs w) (hlen : bs.length + s.size ≤ 140737488355328) (hBw : B ≤ w.heap.size) :
    Calls Tryz.prog 72 #[.pointer (some ⟨b, 0, none⟩), .string s] w fun e w' => e = .returned (.tuple #[.int .i64 s.size, .nilIface]) ∧
      (Lib.IsBuilderF 85 5 B b (bs ++ Lib.strCells s) w' ∧ Below B w w') := by
  obtain ⟨i0, hi, hz0, hz1, hz2⟩ := info_parts infoU8
  go_enter Tryz.func72, Tryz.ntmps72
  go_wp2_with fail
  refine (copyCheck_any B b bs _ h).mono ?_
  rintro e w1 ⟨rfl, h1, hb1⟩
  obtain ⟨hB, v, hbk, hown, hne⟩ := h1
  have c0 : w1.cell? ⟨b, 0, none⟩ = some (.pointer (some ⟨b, 0, none⟩)) := by rw [Lib.cell_of_heap hbk]; rfl
  have c1 : w1.cell? ⟨b, 1, none⟩ = some v := by rw [Lib.cell_of_heap hbk]; rfl
  have hz : w.heap.size ≤ w1.heap.size := hb1.size
  go_wp2_with (at_builtin; refine (Lib.wpList_append_own_stringF _ rfl _ _ 83 9 rfl B 5 i0 Tryz.underlying83 Tryz.underlying9 hi hz0 hz1 hz2 _ _ _ rfl hown s rfl (by unfold maxLen; omega) (by omega) (by omega) ?_))
  intro v' w2 hown' hgrow _
  have hlt : b < w1.heap.size := (Array.getElem?_eq_some_iff.1 hbk).1
  have hb2 : w2.heap[b]? = some (.cells #[.pointer (some ⟨b, 0, none⟩), v] 85 (0, 0)) := (hgrow.block b hlt (fun e => hne e.symm)).trans hbk
  have d0 : w2.cell? ⟨b, 0, none⟩ = some (.pointer (some ⟨b, 0, none⟩)) := by rw [Lib.cell_of_heap hb2]; rfl
  have d1 : w2.cell? ⟨b, 1, none⟩ = some v := by rw [Lib.cell_of_heap hb2]; rfl
  have f1 : w2.frozen? ⟨b, 1, none⟩ = false := Lib.frozen_of_heap hb2 1
  obtain ⟨ao, n', cap, rfl⟩ : ∃ ao n' cap, v' = .slice ao n' cap := by
    rcases hown'.2 with ⟨hv, _⟩ | ⟨g, cap, cur, fz, hv, _⟩
    · exact ⟨_, _, _, hv⟩
    · exact ⟨_, _, _, hv⟩
  go_wp2
  go_ret2
  refine ⟨rfl, .inr ?_, ?_⟩
  · exact Lib.BuilderAtF.put hB hb2 (bs' := bs ++ Lib.strCells s) (by simpa [Lib.strCells_length] using hown') (by decide)
  · exact (hb1.grown hgrow (by omega) (fun k hk => (hown.lt k hk).1)).setCell (p := ⟨b, 1, none⟩) hB _
end Go.Proofs.YtdcnkebcpaelpaaGreatDoor
/- strconv.FormatUint at base 10, over the table of powers of ten. -/
namespace Go.Proofs.YtdcnkebcpaelpaaGreatDoor
open Go.RowKit Go.Sort

/-- the table of powers of ten reads as the program's text lays it -/
def Tab (w : World) : Prop := Lib.TabIs Tryz.prog w "internal/strconv.uint64pow10" .u64 Lib.pow10Tab
theorem Tab.below {w w' : World} (h : Tab w) (hb : Below w.heap.size w w') : Tab w' := (Lib.tabBelow_of_tabIs h) w' hb
theorem Tab.alloc {w : World} (h : Tab w) (o : Obj) : Tab (w.alloc o) := Lib.tabIs_alloc h o

/-- 'var a [24]byte' from its head on -/
theorem holds_zero0 (w : World) (T : TypeId) (nd : Nat) (hs : nd ≤ 24) : Holds (fun (b : UInt8) => Value.int .u8 (b.toNat : Int)) (w.alloc (.cells Lib.zeros24 T)) w.heap.size 0 (Array.replicate nd (0 : UInt8)) := fun j hj => by
  have hj' : j < nd := by simpa using hj
  refine ⟨?_, World.frozen?_alloc_new _ _ _ _⟩
  rw [World.cell?_alloc_new, Lib.zeros24_at _ (by omega), getElem!_pos _ j hj]
  simp
theorem fin0 (w : World) (o : Obj) (dk : Array UInt8) (k : Nat) : Below w.heap.size w ((putRow (fun (b : UInt8) => Value.int .u8 (b.toNat : Int)) (w.alloc o) w.heap.size 0 dk).drewN k) := by
  rw [alloc_eq_grow]
  obtain ⟨os', _, e⟩ := putRow_grow_new (fun (b : UInt8) => Value.int .u8 (b.toNat : Int)) w #[o] w.heap.size 0 dk (Nat.le_refl _)
  rw [e]
  have h : Below w.heap.size w (grow (w.drewN k) os') := ⟨rfl, rfl, rfl, by simp [grow, World.drewN], fun i hi => by simp [grow, World.drewN, Array.getElem?_append, hi]⟩
  exact h

set_option maxHeartbeats 2000000 in
set_option maxRecDepth 100000 in
theorem iFormatUint_any (u : Nat) (hu : u < 18446744073709551616) (w : World) (htab : Tab w) :
    Calls Tryz.prog 86 #[.int .u64 (u : Int), .int .i64 10] w fun e w' => e = .returned (.string ⟨(Lib.decDigits u).toArray⟩) ∧ Below w.heap.size w w' := by
  by_cases hs : u < 100
  · go_enter Tryz.func86, Tryz.ntmps86
    go_wp2_with (go_at_call 93; refine (Tryz.internal_strconv_small u hs _).mono ?_; rintro e w' ⟨rfl, rfl⟩)
    go_ret
    exact ⟨rfl, Below.refl _ _⟩
  · have hu1 : 1 ≤ u := by omega
    have hnd20 : Lib.nDigits u ≤ 20 := by have := Lib.numDigits_eq u hu1 hu; split at this <;> omega
    have hal : Tryz.prog.arrayLen 110 = 24 := by kernel_rfl
    have hsl : ∀ W, (Instr.sliceAt 110 (.pointer (some ⟨w.heap.size, 0, none⟩)) none (some (.int .i64 (Lib.nDigits u : Int))) none).run Tryz.prog W = .ok (.slice (some ⟨w.heap.size, 0, none⟩) (Lib.nDigits u) 24) W := fun W => by
      rw [run_sliceAt_array_h W 110 ⟨w.heap.size, 0, none⟩ (by kernel_rfl) .i64 (Lib.nDigits u : Int) (by omega) (by rw [hal]; omega)]
      go_simp
    have hH0 := holds_zero0 w 110 (Lib.nDigits u) (by omega)
    have hfmt := Tryz.internal_strconv_formatBase10 w.heap.size 0 24 u (Array.replicate (Lib.nDigits u) 0) (w.alloc (.cells Lib.zeros24 110)) hH0 (by rw [Array.size_replicate]; exact Lib.lt_pow_nDigits u) hu (by rw [Array.size_replicate]; omega)
    rw [Array.size_replicate] at hfmt
    have HH0 := Lib.hid hH0
    clear hH0 hal
    go_enter Tryz.func86, Tryz.ntmps86
    go_wp2_with (go_at_call 94; refine (Tryz.internal_strconv_numDigits u hu1 hu _ (Tab.alloc htab _)).mono ?_; rintro e w' ⟨rfl, rfl⟩)
    refine hfmt.mono ?_
    rintro e w' ⟨rfl, k, v', dk, rfl, hF⟩
    have hcv : (convert 83 9 (.slice (some ⟨w.heap.size, 0, none⟩) (Lib.nDigits u) 24)).run Tryz.prog ((putRow (fun (b : UInt8) => Value.int .u8 (b.toNat : Int)) (w.alloc (.cells Lib.zeros24 110)) w.heap.size 0 dk).drewN k) =
        .ok (.string ⟨(Lib.decDigits u).toArray⟩) ((putRow (fun (b : UInt8) => Value.int .u8 (b.toNat : Int)) (w.alloc (.cells Lib.zeros24 110)) w.heap.size 0 dk).drewN k) := by
      have h := run_convert_bytes_back (P := Tryz.prog) ((putRow (fun (b : UInt8) => Value.int .u8 (b.toNat : Int)) (w.alloc (.cells Lib.zeros24 110)) w.heap.size 0 dk).drewN k) 83 9 5 ⟨w.heap.size, 0, none⟩ 24 (Lib.decDigits u) Tryz.underlying83 Tryz.underlying5 Tryz.underlying9 (fun j hj => by
        rw [Lib.row_is_numeral hF j hj, Lib.add_plain, World.cell?_drewN]
        exact cell?_putRow (fun (b : UInt8) => Value.int .u8 (b.toNat : Int)) _ w.heap.size 0 _ dk HH0.out (by rw [hF.size, Array.size_replicate]) j (by rw [hF.size]; rw [Lib.decDigits_length] at hj; exact hj))
      rw [Lib.decDigits_length] at h
      exact h
    go_wp2
    go_ret
    exact ⟨rfl, fin0 w _ dk k⟩

set_option maxRecDepth 100000 in
theorem FormatUint_any (u : Nat) (hu : u < 18446744073709551616) (w : World) (htab : Tab w) :
    Calls Tryz.prog 71 #[.int .u64 (u : Int), .int .i64 10] w fun e w' => e = .returned (.string ⟨(Lib.decDigits u).toArray⟩) ∧ Below w.heap.size w w' := by
  go_enter Tryz.func71, Tryz.ntmps71
  go_wp2_with (go_at_call 86; refine (iFormatUint_any u hu _ htab).mono ?_; rintro e w' ⟨rfl, hb⟩)
  go_ret
  exact ⟨rfl, hb⟩
end Go.Proofs.YtdcnkebcpaelpaaGreatDoor
/- Format: the groups of nine digits, and their text. -/
namespace Go.Proofs.YtdcnkebcpaelpaaGreatDoor
open Go.RowKit

/-- the digits of a number in base 10^9, the lowest one first -/
def gpf : Nat → Nat → List Nat
  | 0, _ => []
  | f + 1, n => if n = 0 then [] else n % 1000000000 :: gpf f (n / 1000000000)
def gp (n : Nat) : List Nat := gpf n n
theorem gpf_fuel (f g n : Nat) (hf : n ≤ f) (hg : n ≤ g) : gpf f n = gpf g n := by
  induction f generalizing g n with
  | zero =>
    have : n = 0 := by omega
    subst this
    cases g <;> simp [gpf]
  | succ f ih =>
    cases g with
    | zero =>
      have : n = 0 := by omega
      subst this; simp [gpf]
    | succ g =>
      rw [gpf, gpf]
      by_cases h : n = 0
      · simp [h]
      · rw [if_neg h, if_neg h, ih g _ (by omega) (by omega)]
theorem gp_zero : gp 0 = [] := rfl
theorem gp_pos (n : Nat) (h : 0 < n) : gp n = n % 1000000000 :: gp (n / 1000000000) := by
  unfold gp
  obtain ⟨m, rfl⟩ : ∃ m, n = m + 1 := ⟨n - 1, by omega⟩
  rw [gpf, if_neg (by omega), gpf_fuel m ((m + 1) / 1000000000) _ (by omega) (by omega)]
theorem gp_length (k n : Nat) (h : n < pw k) : (gp n).length ≤ 2 * k := by
  induction k generalizing n with
  | zero => rw [pw_zero] at h; rw [show n = 0 by omega]; exact Nat.le_refl _
  | succ k ih =>
    by_cases h0 : n = 0
    · subst h0; simp [gp_zero]
    · by_cases h1 : n / 1000000000 = 0
      · rw [gp_pos n (by omega), h1, gp_zero]; simp; omega
      · rw [gp_pos n (by omega), gp_pos _ (by omega), List.length_cons, List.length_cons]
        rw [pw_succ] at h
        have := ih (n / 1000000000 / 1000000000) (by omega)
        omega
theorem lims_gp (n : Nat) : ∀ x ∈ gp n, x < 1000000000 := by
  induction n using Nat.strongRecOn with
  | _ n ih =>
    by_cases h : n = 0
    · subst h; intro x hx; cases hx
    · rw [gp_pos n (by omega)]
      intro x hx
      rcases List.mem_cons.1 hx with rfl | hx
      · omega
      · exact ih _ (by omega) x hx
theorem lims_of_mem {xs : List Nat} (h : ∀ x ∈ xs, x < 4294967296) : Lims xs := by
  intro i
  by_cases hi : i < xs.length
  · rw [lm_get xs i hi]; exact h _ (List.getElem_mem hi)
  · rw [lm_ge xs i (by omega)]; omega
theorem lits_append (xs ys : List Nat) : lits (xs ++ ys) = lits xs ++ lits ys := List.map_append ..

set_option maxHeartbeats 1000000 in
set_option maxRecDepth 100000 in
theorem decimalGroups_any (ao : Option Addr) (cap : Nat) (xs : List Nat) (w : World) (h : Rd w ao cap xs) (hb : xs.length ≤ 1099511627776) :
    Calls Tryz.prog 70 #[.slice ao xs.length cap] w fun e w' => ∃ ao' cap', e = .returned (.slice ao' (gp (val xs)).length cap') ∧ Fr w.heap.size w' ao' cap' (gp (val xs)) ∧ Below w.heap.size w w' := by
  obtain ⟨N, hN⟩ : ∃ N, N = val xs := ⟨_, rfl⟩
  have hlenN : (gp N).length ≤ 2 * xs.length := gp_length _ _ (by rw [hN]; exact val_lt h.lims)
  rw [← hN]
  have hNh := Lib.hid hN
  clear hN
  obtain ⟨i0, hi, hz0, hz1, hz2⟩ := info_parts infoU32
  go_enter Tryz.func70, Tryz.ntmps70
  go_wp2_with fail
  refine (Trim_any _ _ _ _ h hb).mono ?_
  rintro e w1 ⟨ao1, cap1, rfl, hf1, hb1⟩
  rw [← hNh.out] at hf1 ⊢
  have hsz1 := hb1.size
  go_wp2_with fail
  go_loopg [3, 4] N (fun gk s3 s4 wr => ∃ (gs rs : List Nat), s4 = .slice ao1 rs.length cap1 ∧ Fr w.heap.size wr ao1 cap1 rs ∧ gk ≤ N ∧ Hid (val rs = gk) ∧ Hid (rs = dig gk) ∧ wr.ownsRow w.heap.size 35 1 s3 gs.length (lits gs) ∧
      Hid (gs ++ gp gk = gp N) ∧ Hid (∀ g a, s3.ownBlock = some g → ao1 = some a → a.block ≠ g) ∧ Below w.heap.size w wr)
  case atStart => exact ⟨[], dig N, rfl, hf1, Nat.le_refl _, val_dig N, rfl, World.ownsRow_nil _ _ _ _, rfl, (by intro g a hg; cases hg), hb1⟩
  case round =>
    obtain ⟨gs, rs, rfl, hfr, hle, hv, hdig, hown, hgs, hne, hbl⟩ := hrel
    have hsz := hbl.size
    have hgl : gs.length ≤ 2 * xs.length := by
      have := congrArg List.length hgs.out; rw [List.length_append] at this; omega
    have hrl : rs.length ≤ xs.length := by
      have h1 : rs.length = (dig gk).length := congrArg List.length hdig.out
      have h2 := dig_mono hle
      have h3 : (dig N).length ≤ xs.length := by rw [hNh.out]; exact dig_length_val h.lims
      omega
    by_cases hpos : 0 < rs.length
    · have hgk : 0 < gk := by
        rcases Nat.eq_zero_or_pos gk with e | e
        · have h1 := congrArg List.length hdig.out
          rw [e] at h1
          have h2 : (dig 0).length = 0 := rfl
          omega
        · exact e
      go_wp2_with fail
      refine (divideInPlace_any w.heap.size ao1 cap1 1000000000 rs wr hfr (by omega) (by omega) (by omega) hsz).mono ?_
      rintro e w2 ⟨ys, rfl, k1, k2, k3, k4, k5, k6⟩
      have K1 := Lib.hid k1
      have K2 := Lib.hid k2
      have K6 := Lib.hid k6
      have hsz2 : w.heap.size ≤ w2.heap.size := by omega
      clear k1 k2 k6
      have hown2 : w2.ownsRow w.heap.size 35 1 u3 gs.length (lits gs) := hown.kept k4 (by
        cases hob : u3.ownBlock with
        | none => exact .inl rfl
        | some g =>
          right
          cases ao1 with
          | none => simp
          | some a => intro e; exact hne.out g a hob rfl (by simpa using e.symm))
      obtain ⟨r, hr⟩ : ∃ r, r = val rs % 1000000000 := ⟨_, rfl⟩
      rw [← hr]
      have hr2 : r < 1000000000 := by omega
      have R := Lib.hid hr
      clear hr
      go_wp2_with (at_builtin; refine wpList_append_own_at _ rfl _ _ 22 rfl w.heap.size 35 i0 (.int .u32 0) 1 4 Tryz.underlying22 hi hz0 hz1 hz2 rfl (by omega) _ _ _ rfl (hown2.alloc _) ⟨w2.heap.size, 0, none⟩ 1 1 [.int .u32 ((r : Nat) : Int)] rfl rfl (cell_one_new _ _ _) (by intro u hu; simp at hu; subst hu; rfl) (by unfold maxLen; omega) (by omega) (by simp; omega) ?_)
      intro v' w3 hown3 hgr3 _ hloc
      have hl3 : ∀ a, ao1 = some a → some a.block ≠ u3.ownBlock := fun a ha e => hne.out a.block a e.symm ha rfl
      have hf3 : Fr w.heap.size w3 ao1 cap1 ys := (k3.alloc _).grown hgr3 hl3
      have hb3 : Below w.heap.size w w3 := ((hbl.trans k5).alloc hsz2 _).grown hgr3 (by simp; omega) (fun k hk => (hown2.lt k hk).1)
      have hne3 : Hid (∀ g a, v'.ownBlock = some g → ao1 = some a → a.block ≠ g) := fun g a hg ha e => by
        rcases hloc with hl | hl
        · exact hne.out g a (hl ▸ hg) ha e
        · rw [hl] at hg
          cases hg
          subst ha
          have := k3.block_lt.2
          omega
      have hown4 : w3.ownsRow w.heap.size 35 1 v' (gs ++ [r]).length (lits (gs ++ [r])) := by rw [lits_append, List.length_append]; exact hown3
      clear hloc hown3 hgr3 hl3
      go_wp2_with fail
      refine (significant_len _ _ _ _ hf3.rd _ K1.out.symm).mono ?_; rintro e w' ⟨rfl, rfl⟩
      go_wp2_with fail
      have ht : trim ys = dig (gk / 1000000000) := by rw [trim_dig hf3.lims, K2.out, hv.out]
      go_roundg (gk / 1000000000)
      case measure => omega
      case rel => exact ⟨gs ++ [r], trim ys, rfl, hf3.trim, by omega, by show _ = _; rw [val_trim, K2.out, hv.out], ht, hown4, by
        show _ = _
        rw [← hgs.out, gp_pos gk hgk, R.out, hv.out, List.append_assoc]; rfl, hne3, hb3⟩
    · have h0 : Hid (gs = gp N) := by
        have h1 := congrArg List.length hdig.out
        have h2 : gk = 0 := by
          rcases Nat.eq_zero_or_pos gk with e | e
          · exact e
          · have := dig_length_pos e; omega
        show _ = _
        rw [← hgs.out, h2, gp_zero, List.append_nil]
      have hl : Lims gs := lims_of_mem (fun x hx => by have := lims_gp N x (h0.out ▸ hx); omega)
      obtain ⟨ao', cap', rfl, hf, _⟩ := Fr.of_row hown hl
      go_wp2
      go_ret
      rw [h0.out] at hf
      exact ⟨ao', cap', ret_len (congrArg List.length h0.out), hf, hbl⟩
end Go.Proofs.YtdcnkebcpaelpaaGreatDoor
/- Decimal digits: those of a number, group by group. -/
namespace Go.Proofs.YtdcnkebcpaelpaaGreatDoor
open Go.RowKit

/-- nine digits, with zeros ahead -/
def padz (k g : Nat) : List UInt8 := List.replicate (k - (Lib.decDigits g).length) 48 ++ Lib.decDigits g
theorem dec_small {n : Nat} (h : n < 10) : Lib.decDigits n = [UInt8.ofNat (48 + n)] := by rw [Lib.decDigits, dif_pos h]
theorem dec_big {n : Nat} (h : 10 ≤ n) : Lib.decDigits n = Lib.decDigits (n / 10) ++ [UInt8.ofNat (48 + n % 10)] := by rw [Lib.decDigits, dif_neg (by omega)]
theorem dec_pos (n : Nat) : 0 < (Lib.decDigits n).length := by
  by_cases h : n < 10
  · rw [dec_small h]; simp
  · rw [dec_big (by omega)]; simp
theorem padz_succ (k g : Nat) : padz (k + 2) g = padz (k + 1) (g / 10) ++ [UInt8.ofNat (48 + g % 10)] := by
  by_cases h : g < 10
  · have e1 : g / 10 = 0 := by omega
    have e2 : g % 10 = g := by omega
    rw [padz, padz, e1, e2, dec_small h, dec_small (n := 0) (by omega)]
    simp only [List.length_cons, List.length_nil, Nat.add_sub_cancel]
    rw [show k + 2 - (0 + 1) = k + 1 by omega, List.replicate_succ']
    rfl
  · rw [padz, padz, dec_big (n := g) (by omega), List.length_append]
    have e : k + 2 - ((Lib.decDigits (g / 10)).length + [UInt8.ofNat (48 + g % 10)].length) = k + 1 - (Lib.decDigits (g / 10)).length := by simp
    rw [e, List.append_assoc]
theorem dec_split (k q g : Nat) (hq : 0 < q) (hg : g < 10 ^ (k + 1)) : Lib.decDigits (q * 10 ^ (k + 1) + g) = Lib.decDigits q ++ padz (k + 1) g := by
  induction k generalizing g with
  | zero =>
    have hg' : g < 10 := by simpa using hg
    have e : q * 10 ^ (0 + 1) + g = q * 10 + g := by simp
    rw [e, dec_big (by omega), show (q * 10 + g) / 10 = q by omega, show (q * 10 + g) % 10 = g by omega, padz, dec_small hg']
    rfl
  | succ k ih =>
    have e : q * 10 ^ (k + 1 + 1) = q * 10 ^ (k + 1) * 10 := by rw [Nat.pow_succ, ← Nat.mul_assoc]
    have hp : 0 < q * 10 ^ (k + 1) := Nat.mul_pos hq (Nat.pow_pos (by omega))
    have hg2 : g < 10 ^ (k + 1) * 10 := by rw [← Nat.pow_succ]; exact hg
    rw [e, dec_big (by omega), show (q * 10 ^ (k + 1) * 10 + g) / 10 = q * 10 ^ (k + 1) + g / 10 by omega, show (q * 10 ^ (k + 1) * 10 + g) % 10 = g % 10 by omega, ih (g / 10) (by omega), padz_succ, List.append_assoc]
theorem dec_group (q g : Nat) (hq : 0 < q) (hg : g < 1000000000) : Lib.decDigits (q * 1000000000 + g) = Lib.decDigits q ++ (List.replicate (9 - (Lib.decDigits g).length) 48 ++ Lib.decDigits g) := dec_split 8 q g hq hg
theorem dec_len_le (k g : Nat) (h : g < 10 ^ (k + 1)) : (Lib.decDigits g).length ≤ k + 1 := by
  induction k generalizing g with
  | zero => rw [dec_small (by simpa using h)]; simp
  | succ k ih =>
    by_cases hs : g < 10
    · rw [dec_small hs]; simp
    · rw [dec_big (by omega), List.length_append]
      have h2 : g < 10 ^ (k + 1) * 10 := by rw [← Nat.pow_succ]; exact h
      have := ih (g / 10) (by omega)
      simp; omega

/-- the number without its k lowest groups -/
def hi9 : Nat → Nat → Nat
  | 0, n => n
  | k + 1, n => hi9 k (n / 1000000000)
theorem hi9_zero (k : Nat) : hi9 k 0 = 0 := by
  induction k with
  | zero => rfl
  | succ k ih => rw [hi9]; exact ih
theorem hi9_succ (k n : Nat) : hi9 (k + 1) n = hi9 k n / 1000000000 := by
  induction k generalizing n with
  | zero => rfl
  | succ k ih => rw [hi9, ih, hi9]
theorem gp_get (n k : Nat) (h : k < (gp n).length) : lm (gp n) k = hi9 k n % 1000000000 ∧ 0 < hi9 k n := by
  induction k generalizing n with
  | zero =>
    by_cases h0 : n = 0
    · subst h0; simp [gp_zero] at h
    · rw [gp_pos n (by omega)]; exact ⟨rfl, by show 0 < n; omega⟩
  | succ k ih =>
    by_cases h0 : n = 0
    · subst h0; simp [gp_zero] at h
    · rw [gp_pos n (by omega)] at h ⊢
      rw [lm_cons_succ, hi9]
      exact ih _ (by simpa using h)
theorem gp_end (n : Nat) : hi9 (gp n).length n = 0 := by
  induction n using Nat.strongRecOn with
  | _ n ih =>
    by_cases h : n = 0
    · subst h; exact hi9_zero _
    · rw [gp_pos n (by omega), List.length_cons, hi9]; exact ih _ (by omega)

/-- the text behind i rounds: the i highest groups -/
def txt (n i : Nat) : List UInt8 := if i = 0 then [] else Lib.decDigits (hi9 ((gp n).length - i) n)
theorem txt_zero (n : Nat) : txt n 0 = [] := rfl
theorem txt_one (n i : Nat) (hi : i = 0) (h : 0 < (gp n).length) : txt n (i + 1) = Lib.decDigits (lm (gp n) ((gp n).length - 1 - i)) := by
  subst hi
  rw [txt, if_neg (by omega), (gp_get n _ (by omega)).1]
  have h2 := gp_end n
  rw [show (gp n).length = (gp n).length - 1 + 1 by omega, hi9_succ] at h2
  congr 1
  show hi9 ((gp n).length - (0 + 1)) n = hi9 ((gp n).length - 1 - 0) n % 1000000000
  rw [show (gp n).length - (0 + 1) = (gp n).length - 1 by omega, show (gp n).length - 1 - 0 = (gp n).length - 1 by omega]
  omega
theorem txt_succ (n i : Nat) (hi : 0 < i) (h : i < (gp n).length) : txt n (i + 1) = txt n i ++ (List.replicate (9 - (Lib.decDigits (lm (gp n) ((gp n).length - 1 - i))).length) 48 ++ Lib.decDigits (lm (gp n) ((gp n).length - 1 - i))) := by
  have g1 := gp_get n ((gp n).length - 1 - i) (by omega)
  have g2 := gp_get n ((gp n).length - i) (by omega)
  have e := hi9_succ ((gp n).length - 1 - i) n
  rw [show (gp n).length - 1 - i + 1 = (gp n).length - i by omega] at e
  rw [txt, if_neg (by omega), txt, if_neg (by omega), show (gp n).length - (i + 1) = (gp n).length - 1 - i by omega, g1.1, ← dec_group _ _ g2.2 (by omega)]
  congr 1
  omega
theorem txt_end (n : Nat) (h : 0 < (gp n).length) : txt n (gp n).length = Lib.decDigits n := by
  rw [txt, if_neg (by omega), Nat.sub_self]; rfl
end Go.Proofs.YtdcnkebcpaelpaaGreatDoor
/- Format writes the decimal digits of the number. -/
namespace Go.Proofs.YtdcnkebcpaelpaaGreatDoor
open Go.RowKit

theorem BuilderF_below {T e : TypeId} {B b : Nat} {bs : List Value} {w w' : World} (h : Lib.IsBuilderF T e B b bs w) (hb : Below w.heap.size w w') : Lib.IsBuilderF T e B b bs w' := by
  have aux : ∀ p, Lib.BuilderAtF T e B b p bs w → Lib.BuilderAtF T e B b p bs w' := by
    rintro p ⟨h1, v, h2, h3, h4⟩
    have hlt : b < w.heap.size := (Array.getElem?_eq_some_iff.1 h2).1
    exact ⟨h1, v, (hb.block b hlt).trans h2, h3.kept (row := none) (grownBy_below hb (Nat.le_refl _) none) (by cases hv : v.ownBlock <;> simp), h4⟩
  rcases h with h | h
  · exact .inl (aux _ h)
  · exact .inr (aux _ h)
theorem repeat_zero (c : Nat) : Lib.repeatL [48] c = List.replicate c 48 := by
  induction c with
  | zero => rfl
  | succ c ih => rw [Nat.add_comm, Lib.repeatL_add, Lib.repeatL_one, ih, Nat.add_comm, List.replicate_succ]; rfl
theorem ret_str {a b : List UInt8} (h : a = b) : Ending.returned (.string ⟨a.toArray⟩) = .returned (.string ⟨b.toArray⟩) := by rw [h]

theorem repeat_any (c : Nat) (w : World) (hc : c ≤ 9) (n : Int) (hn : n = c) :
    Calls Tryz.prog 57 #[.string ⟨#[48]⟩, .int .i64 n] w fun e w' => e = .returned (.string ⟨(List.replicate c 48).toArray⟩) ∧ Below w.heap.size w w' := by
  subst hn
  have h := Tryz.strings_Repeat ⟨#[48]⟩ c w (by omega) (by show 1 * c ≤ _; omega)
  rw [show (ByteArray.mk #[48]).data.toList = [48] from rfl, repeat_zero] at h
  exact h

set_option maxHeartbeats 1000000 in
set_option maxRecDepth 100000 in
theorem Format_any (ao : Option Addr) (cap : Nat) (xs : List Nat) (w : World) (h : Rd w ao cap xs) (hb : xs.length ≤ 1099511627776) (htab : Tab w) :
    Calls Tryz.prog 56 #[.slice ao xs.length cap] w fun e w' => e = .returned (.string ⟨(Lib.decDigits (val xs)).toArray⟩) ∧ Below w.heap.size w w' := by
  obtain ⟨N, hN⟩ : ∃ N, N = val xs := ⟨_, rfl⟩
  have hlenN : (gp N).length ≤ 2 * xs.length := gp_length _ _ (by rw [hN]; exact val_lt h.lims)
  have hlg := lims_gp N
  have hdec0 : Hid (N = 0 → Lib.decDigits N = [48]) := fun e => by rw [e]; exact dec_small (by omega)
  obtain ⟨m, hm⟩ : ∃ m, m = (gp N).length := ⟨_, rfl⟩
  have hgp0 : Hid (m = 0 → N = 0) := fun e => by
    rcases Nat.eq_zero_or_pos N with k | k
    · exact k
    · rw [hm, gp_pos N k] at e; simp at e
  have hctr := decimalGroups_any ao cap xs w h hb
  rw [← hN] at hctr ⊢
  rw [← hm] at hctr hlenN
  have hmh := Lib.hid hm
  clear hN hm
  by_cases hm0 : m = 0
  · have hz := Lib.hid (hdec0.out (hgp0.out hm0))
    subst hm0
    go_enter Tryz.func56, Tryz.ntmps56
    go_wp2_with fail
    refine hctr.mono ?_
    rintro e w1 ⟨ao1, cap1, rfl, hf1, hb1⟩
    go_wp2
    go_ret
    exact ⟨ret_str hz.out.symm, hb1⟩
  · have hmp : 0 < m := by omega
    have hd : ((m : Int) == 0) = false := by simp; omega
    clear hm0
    go_enter Tryz.func56, Tryz.ntmps56
    go_wp2_with fail
    refine hctr.mono ?_
    rintro e w1 ⟨ao1, cap1, rfl, hf1, hb1⟩
    have htab1 := htab.below hb1
    have hsz1 := hb1.size
    have hnew := Lib.IsBuilderF.of (Lib.fresh_isBuilder 85 5 w1)
    have hbel0 : Below w1.heap.size w1 (w1.alloc (.cells #[.pointer none, .slice none 0 0] 85)) := (Below.refl _ _).alloc (Nat.le_refl _) _
    go_wp2
    go_loopw [14] (fun s14 wr => ∃ i : Nat, i ≤ m ∧ s14 = .int .i64 i ∧ Lib.IsBuilderF 85 5 w1.heap.size w1.heap.size (Lib.byteCells (txt N i)) wr ∧ (Lib.byteCells (txt N i)).length ≤ 9 * i ∧ Below w1.heap.size w1 wr) (fun s14 _ => m - (intOf s14).toNat)
    case atStart => exact ⟨0, Nat.zero_le _, rfl, hnew, Nat.le_refl _, hbel0⟩
    case round =>
      obtain ⟨i, hi, rfl, hbd, htl, hbl⟩ := hrel
      have hsz := hbl.size
      have htab2 := htab1.below hbl
      by_cases hlt : i < m
      · have hrd := hf1.rd.below hbl
        obtain ⟨b, o, rfl, hc⟩ := hrd.at (by rw [← hmh.out]; omega)
        have hci := hc (m - 1 - i) (by rw [← hmh.out]; omega)
        obtain ⟨g, hg⟩ : ∃ g, g = lm (gp N) (m - 1 - i) := ⟨_, rfl⟩
        rw [← hg] at hci
        have hgb : g < 1000000000 := by
          rw [hg, lm_get _ _ (by rw [← hmh.out]; omega)]; exact hlg _ (List.getElem_mem _)
        have hdl := dec_len_le 8 g (by omega)
        have G := Lib.hid hg
        clear hg hc
        by_cases hi0 : i = 0
        · subst hi0
          rw [Nat.sub_zero] at hci
          have ht := Lib.hid ((txt_one N 0 rfl (by rw [← hmh.out]; omega)).trans (by rw [← hmh.out, ← G.out]))
          go_wp2_with fail
          refine (FormatUint_any g (by omega) _ htab2).mono ?_
          rintro e w2 ⟨rfl, hb2⟩
          have hbd2 := BuilderF_below hbd hb2
          go_wp2_with fail
          refine (WriteString_any w1.heap.size w1.heap.size _ _ _ hbd2 (by simp [ByteArray.size]; omega) (by have := hb2.size; omega)).mono ?_
          rintro e w3 ⟨rfl, hbd3, hb3⟩
          go_wp2_with fail
          have hnew3 : Lib.byteCells (txt N 0) ++ Lib.strCells ⟨(Lib.decDigits g).toArray⟩ = Lib.byteCells (txt N (0 + 1)) := by rw [ht.out]; rfl
          rw [hnew3] at hbd3
          go_roundw
          case rel => exact ⟨0 + 1, by omega, by go_num, hbd3, by rw [ht.out]; simpa [Lib.byteCells] using hdl, (hbl.trans (hb2.mono (by omega))).trans hb3⟩
          case measure => simp [intOf]; omega
        · have hip : 0 < i := by omega
          have ht := Lib.hid ((txt_succ N i hip (by rw [← hmh.out]; omega)).trans (by rw [← hmh.out, ← G.out]))
          go_wp2_with fail
          refine (FormatUint_any g (by omega) _ htab2).mono ?_
          rintro e w2 ⟨rfl, hb2⟩
          have hbd2 := BuilderF_below hbd hb2
          have hs2 := hb2.size
          go_wp2_with fail
          refine (repeat_any (9 - (Lib.decDigits g).length) _ (by omega) _ (by omega)).mono ?_
          rintro e w3 ⟨rfl, hb3⟩
          have hbd3 := BuilderF_below hbd2 hb3
          have hs3 := hb3.size
          go_wp2_with fail
          refine (WriteString_any w1.heap.size w1.heap.size _ _ _ hbd3 (by simp [ByteArray.size]; omega) (by omega)).mono ?_
          rintro e w4 ⟨rfl, hbd4, hb4⟩
          have hs4 := hb4.size
          go_wp2_with fail
          refine (WriteString_any w1.heap.size w1.heap.size _ _ _ hbd4 (by simp [ByteArray.size, Lib.strCells]; omega) (by omega)).mono ?_
          rintro e w5 ⟨rfl, hbd5, hb5⟩
          go_wp2_with fail
          have hnew5 : Lib.byteCells (txt N i) ++ Lib.strCells ⟨Array.replicate (9 - (Lib.decDigits g).length) (48 : UInt8)⟩ ++ Lib.strCells ⟨(Lib.decDigits g).toArray⟩ = Lib.byteCells (txt N (i + 1)) := by
            rw [ht.out, List.append_assoc]; simp [Lib.byteCells, Lib.strCells]
          rw [hnew5] at hbd5
          go_roundw
          case rel => exact ⟨i + 1, by omega, by go_num, hbd5, by rw [← hnew5]; simp [Lib.strCells]; omega, (((hbl.trans (hb2.mono (by omega))).trans (hb3.mono (by omega))).trans hb4).trans hb5⟩
          case measure => simp [intOf]; omega
      · obtain rfl : i = m := by omega
        have ht : Hid (txt N i = Lib.decDigits N) := by
          show _ = _
          rw [hmh.out]; exact txt_end N (by rw [← hmh.out]; omega)
        go_wp2_with fail
        refine (Tryz.Builder_String_any_f w1.heap.size w1.heap.size (txt N i) _ hbd hsz).mono ?_
        rintro e w2 ⟨rfl, _, hb2⟩
        go_wp2_with fail
        go_ret
        exact ⟨ret_str ht.out, hb1.trans ((hbl.trans hb2).mono hsz1)⟩
end Go.Proofs.YtdcnkebcpaelpaaGreatDoor
