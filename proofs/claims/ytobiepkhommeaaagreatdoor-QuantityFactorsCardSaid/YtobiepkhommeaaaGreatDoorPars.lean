import Derived.Test.YtobiepkhommeaaaGreatDoorTxts
import Derived.Lib.IndexMore
import Derived.Lib.ParseIntB
import Derived.Test.YtobiepkhommeaaaGreatDoorRat11
import Derived.Lib.CutLaws
import Derived.Test.YtobiepkhommeaaaGreatDoorShelfW
/- Decimal texts of rational numbers: what Parse says of a list of bytes. -/
namespace Go.Proofs.YtobiepkhommeaaaGreatDoor
open Go.Lib

theorem isPre1 (c : UInt8) (l : List UInt8) : ([c] : List UInt8).isPrefixOf l = true ↔ l.head? = some c := by
  cases l with
  | nil => simp [List.isPrefixOf]
  | cons b t =>
    rw [List.isPrefixOf, List.isPrefixOf, Bool.and_true, List.head?_cons, beq_iff_eq, Option.some.injEq]
    exact eq_comm
theorem occ1 (c : UInt8) (l : List UInt8) (j : Nat) : occAt l [c] j = true ↔ l[j]? = some c := by
  unfold occAt
  rw [isPre1, List.head?_drop]
theorem until_miss {c : UInt8} : ∀ {l : List UInt8}, (∀ j : Nat, l[j]? ≠ some c) → l.takeWhile (· != c) = l ∧ l.dropWhile (· != c) = []
  | [], _ => ⟨rfl, rfl⟩
  | b :: t, h => by
    have hb : (b != c) = true := by
      have := h 0
      simp at this
      simpa using this
    obtain ⟨h1, h2⟩ := until_miss (l := t) (fun j => by have := h (j + 1); simpa using this)
    rw [List.takeWhile_cons, List.dropWhile_cons, if_pos hb, if_pos hb, h1, h2]
    exact ⟨rfl, rfl⟩
theorem until_hit {c : UInt8} : ∀ {l : List UInt8} {i : Nat}, (∀ j : Nat, j < i → l[j]? ≠ some c) → l[i]? = some c → l.takeWhile (· != c) = l.take i ∧ l.dropWhile (· != c) = l.drop i
  | [], i, _, h => by simp at h
  | b :: t, 0, _, h => by
    have hb : b = c := by simpa using h
    subst hb
    rw [List.takeWhile_cons, List.dropWhile_cons, if_neg (by simp), if_neg (by simp)]
    exact ⟨rfl, rfl⟩
  | b :: t, i + 1, h, hi => by
    have hb : (b != c) = true := by
      have := h 0 (by omega)
      simp at this
      simpa using this
    obtain ⟨h1, h2⟩ := until_hit (l := t) (i := i) (fun j hj => by have := h (j + 1) (by omega); simpa using this) (by simpa using hi)
    rw [List.takeWhile_cons, List.dropWhile_cons, if_pos hb, if_pos hb, h1, h2]
    exact ⟨rfl, rfl⟩

/-- the parts of a decimal text -/
def pneg (l : List UInt8) : Bool := l.head? == some 45
def pbody (l : List UInt8) : List UInt8 := if pneg l = true then l.tail else l
def phead (t : List UInt8) : List UInt8 := t.takeWhile (· != 46)
def prest (t : List UInt8) : List UInt8 := t.dropWhile (· != 46)
def ptail (t : List UInt8) : List UInt8 := (prest t).tail
/-- a valid decimal text behind its sign -/
def pOk (s : Bool) (t : List UInt8) : Prop := Good (phead t) ∧ (phead t).length ≤ 30 ∧ (prest t ≠ [] → Digs (ptail t) ∧ ptail t ≠ [] ∧ (ptail t).length ≤ 12) ∧ ¬ (s = true ∧ dv 0 (phead t ++ ptail t) = 0)
theorem cut_point (t : List UInt8) : cut t [46] = (phead t, ptail t, decide (prest t ≠ [])) := by
  unfold cut ptail
  rcases index_spec t [46] with ⟨h, hn⟩ | ⟨i, h, hi, ho, hn⟩
  · have hm : ∀ j : Nat, t[j]? ≠ some 46 := fun j e => by
      have hj := (List.getElem?_eq_some_iff.1 e).1
      have := hn j (by omega)
      rw [(occ1 46 t j).2 e] at this
      cases this
    obtain ⟨h1, h2⟩ := until_miss hm
    rw [h, if_neg (by decide)]
    unfold phead prest
    rw [h1, h2]
    rfl
  · have hx := (occ1 46 t i).1 ho
    have hlt := (List.getElem?_eq_some_iff.1 hx).1
    obtain ⟨h1, h2⟩ := until_hit (c := 46) (l := t) (i := i) (fun j hj e => by
      have := hn j hj
      rw [(occ1 46 t j).2 e] at this
      cases this) hx
    rw [h, if_pos (by omega)]
    unfold phead prest
    rw [h1, h2, List.tail_drop]
    have hne : t.drop i ≠ [] := fun e => by have := congrArg List.length e; rw [List.length_drop] at this; simp at this; omega
    rw [decide_eq_true hne]
    simp
theorem parseM (M : Nat) : ∀ (l : List UInt8) (acc : Nat), (acc + 1) * 10 ^ l.length ≤ 1000000000000000 → 1000000000000000 ≤ M → (Digs l → parseUintM M acc l = .ok (dv acc l)) ∧ (¬ Digs l → parseUintM M acc l = parseUintB 64 [])
  | [], acc, _, _ => ⟨fun _ => rfl, fun h => absurd (fun c hc => by cases hc) h⟩
  | c :: r, acc, h, hM => by
    have hp : 1 ≤ 10 ^ r.length := Nat.one_le_pow _ _ (by omega)
    rw [List.length_cons, Nat.pow_succ] at h
    have h2 : (acc + 1) * 10 ≤ 1000000000000000 := by
      have e : (acc + 1) * (10 ^ r.length * 10) = ((acc + 1) * 10) * 10 ^ r.length := by rw [Nat.mul_comm (10 ^ r.length) 10, Nat.mul_assoc]
      rw [e] at h
      exact Nat.le_trans (Nat.le_mul_of_pos_right _ hp) h
    by_cases hc : 48 ≤ c.toNat ∧ c.toNat ≤ 57
    · have hs : (acc * 10 + (c.toNat - 48) + 1) * 10 ^ r.length ≤ 1000000000000000 := by
        have e : (acc + 1) * (10 ^ r.length * 10) = ((acc + 1) * 10) * 10 ^ r.length := by rw [Nat.mul_comm (10 ^ r.length) 10, Nat.mul_assoc]
        rw [e] at h
        exact Nat.le_trans (Nat.mul_le_mul_right _ (by omega)) h
      obtain ⟨i1, i2⟩ := parseM M r (acc * 10 + (c.toNat - 48)) hs hM
      have e : parseUintM M acc (c :: r) = parseUintM M (acc * 10 + (c.toNat - 48)) r := by
        rw [parseUintM, if_pos hc, if_neg (by omega), if_neg (by omega)]
      refine ⟨fun hd => ?_, fun hd => ?_⟩
      · rw [e, i1 (fun x hx => hd x (List.mem_cons_of_mem _ hx)), dv_cons]
      · rw [e]
        refine i2 (fun k => hd (fun x hx => ?_))
        rcases List.mem_cons.1 hx with rfl | hx
        · exact hc
        · exact k x hx
    · refine ⟨fun hd => absurd (hd c List.mem_cons_self) hc, fun _ => ?_⟩
      rw [parseUintM, if_neg hc]
      rfl
theorem parse_tail {l : List UInt8} (hl : l.length ≤ 12) : (Digs l ∧ l ≠ [] → parseUintB 64 l = .ok (dv 0 l)) ∧ (¬ (Digs l ∧ l ≠ []) → parseUintB 64 l = parseUintB 64 []) := by
  have hp : 10 ^ l.length ≤ 10 ^ 12 := Nat.pow_le_pow_right (by omega) hl
  obtain ⟨h1, h2⟩ := parseM (2 ^ 64 - 1) l 0 (by omega) (by decide)
  refine ⟨fun h => by unfold parseUintB; rw [if_neg h.2]; exact h1 h.1, fun h => ?_⟩
  by_cases he : l = []
  · rw [he]
  · refine Eq.trans ?_ (h2 (fun k => h ⟨k, he⟩))
    unfold parseUintB
    rw [if_neg he]
theorem good_head {h : List UInt8} : (Digs h ∧ 1 ≤ h.length ∧ h.length ≤ 30) ∧ ¬ (h.head? = some 48 ∧ 1 < h.length) ↔ Good h ∧ h.length ≤ 30 := by
  constructor
  · rintro ⟨⟨h1, h2, h3⟩, h4⟩
    refine ⟨⟨h1, fun e => by rw [e] at h2; simp at h2, ?_⟩, h3⟩
    by_cases hh : h.head? = some 48
    · left
      cases h with
      | nil => cases hh
      | cons b t =>
        have e : b = 48 := by simpa using hh
        have hl : ¬ 1 < (b :: t).length := fun k => h4 ⟨hh, k⟩
        have ht : t = [] := List.eq_nil_of_length_eq_zero (by rw [List.length_cons] at hl; omega)
        rw [e, ht]
    · exact .inr hh
  · rintro ⟨⟨h1, h2, h3⟩, h4⟩
    refine ⟨⟨h1, List.length_pos_iff.2 h2, h4⟩, ?_⟩
    rintro ⟨k1, k2⟩
    rcases h3 with rfl | h3
    · simp at k2
    · exact h3 k1
theorem parts_at {t : List UInt8} {i : Nat} (h : ∀ j : Nat, j < i → t[j]? ≠ some 46) (hi : i = t.length ∨ t[i]? = some 46) : phead t = t.take i ∧ prest t = t.drop i ∧ ptail t = t.drop (i + 1) := by
  unfold ptail phead prest
  rcases hi with rfl | hi
  · obtain ⟨h1, h2⟩ := until_miss (c := 46) (l := t) (fun j e => h j ((List.getElem?_eq_some_iff.1 e).1) e)
    rw [h1, h2, List.take_length, List.drop_length]
    refine ⟨rfl, rfl, ?_⟩
    rw [List.drop_of_length_le (by omega)]
    rfl
  · obtain ⟨h1, h2⟩ := until_hit (c := 46) (l := t) (i := i) h hi
    rw [h1, h2, List.tail_drop]
    exact ⟨rfl, rfl, rfl⟩
end Go.Proofs.YtobiepkhommeaaaGreatDoor
/- Texts of rational numbers: strings.CutPrefix at "-", strings.Cut at ".", the digits behind a point. -/
namespace Go.Proofs.YtobiepkhommeaaaGreatDoor
open Go.RowKit

/-- a text behind its sign -/
def bodyS (s : ByteArray) : ByteArray := if pneg s.data.toList = true then s.extract 1 s.size else s
theorem bodyS_list (s : ByteArray) : (bodyS s).data.toList = pbody s.data.toList := by
  unfold bodyS pbody
  by_cases h : pneg s.data.toList = true
  · rw [if_pos h, if_pos h]
    have := list_drop s 1
    rw [this, List.drop_one]
  · rw [if_neg h, if_neg h]
theorem bodyS_size (s : ByteArray) : (bodyS s).size ≤ s.size := by
  unfold bodyS
  split
  · rw [ByteArray.size_extract]; omega
  · exact Nat.le_refl _
def headS (t : ByteArray) : ByteArray := ⟨(phead t.data.toList).toArray⟩
def tailS (t : ByteArray) : ByteArray := ⟨(ptail t.data.toList).toArray⟩
theorem phead_len (l : List UInt8) : (phead l).length ≤ l.length := (List.takeWhile_sublist _).length_le
theorem ptail_len (l : List UInt8) : (ptail l).length ≤ l.length := by
  unfold ptail prest
  rw [List.length_tail]
  have := (List.dropWhile_sublist (· != 46) (l := l)).length_le
  omega
theorem hasp (s : ByteArray) : Lib.hasPrefix s.data.toList [45] = pneg s.data.toList := by
  unfold Lib.hasPrefix pneg
  cases s.data.toList with
  | nil => rfl
  | cons b t =>
    rw [List.isPrefixOf, List.isPrefixOf, Bool.and_true, List.head?_cons, Bool.eq_iff_iff, beq_iff_eq, beq_iff_eq, Option.some.injEq]
    exact eq_comm

theorem bytes_ext {a b : ByteArray} (h : a.data.toList = b.data.toList) : a = b := by
  apply ByteArray.ext
  exact Array.toList_inj.1 h
theorem bodyS_cut (s : ByteArray) : (⟨(Lib.trimPrefix s.data.toList [45]).toArray⟩ : ByteArray) = bodyS s := by
  apply bytes_ext
  rw [bodyS_list]
  show Lib.trimPrefix s.data.toList [45] = pbody s.data.toList
  unfold Lib.trimPrefix pbody
  rw [hasp, List.length_singleton, List.drop_one]
theorem cutPrefix_v (s : ByteArray) (w : World) : Calls Tryz.prog 155 #[.string s, .string ⟨#[45]⟩] w fun e w' => e = .returned (.tuple #[.string (bodyS s), .bool (pneg s.data.toList)]) ∧ Below w.heap.size w w' :=
  (Tryz.strings_CutPrefix s ⟨#[45]⟩ w).mono fun e w' ⟨he, hw⟩ => ⟨by rw [he, show (⟨#[45]⟩ : ByteArray).data.toList = [45] from rfl, bodyS_cut, hasp], by rw [hw]; exact Below.refl _ _⟩

set_option maxHeartbeats 2000000 in
theorem cutS_v (t : ByteArray) (w : World) (hs : t.size ≤ 9223372036854775806) :
    Calls Tryz.prog 119 #[.string t, .string ⟨#[46]⟩] w fun e w' => e = .returned (.tuple #[.string (headS t), .string (tailS t), .bool (decide (prest t.data.toList ≠ []))]) ∧ Below w.heap.size w w' := by
  have hcp := cut_point t.data.toList
  have HI : Hid (∀ w, Calls Tryz.prog 152 #[.string t, .string ⟨#[46]⟩] w fun e w' => e = .returned (.int .i64 (Lib.indexB t ⟨#[46]⟩)) ∧ w' = w) := fun w =>
    (Tryz.stringslite_Index_one t 46 w).mono fun e w' ⟨he, hw⟩ => ⟨by rw [he]; exact congrArg (fun x => Ending.returned (.int .i64 x)) (Lib.index_one _ _).symm, hw⟩
  rcases Lib.indexB_cases t ⟨#[46]⟩ with hix | ⟨i, hix, hroom⟩
  · obtain ⟨e1, e2, e3⟩ := Lib.cutB_miss t ⟨#[46]⟩ hix
    rw [show (⟨#[46]⟩ : ByteArray).data.toList = [46] from rfl, hcp] at e1 e2 e3
    have hh : headS t = t := e1
    have ht : tailS t = ByteArray.empty := e2
    rw [hh, ht, show decide (prest t.data.toList ≠ []) = false from e3]
    unfold Hid at HI
    rw [hix] at HI
    have HI2 := Lib.hid HI
    clear HI e1 e2 e3 hh ht hcp hix
    go_enter Tryz.func119, Tryz.ntmps119
    go_wp2_with (first | (go_at_call 152; refine (HI2.out _).mono ?_; rintro e w' ⟨rfl, rfl⟩))
    go_ret3
    exact ⟨rfl, Below.refl _ _⟩
  · obtain ⟨e1, e2, e3⟩ := Lib.cutB_hit t ⟨#[46]⟩ i hix
    rw [show (⟨#[46]⟩ : ByteArray).data.toList = [46] from rfl, hcp] at e1 e2 e3
    have hroom' : i + 1 ≤ t.size := hroom
    have hh : headS t = t.extract 0 i := e1
    have ht : tailS t = t.extract (i + 1) t.size := e2
    rw [hh, ht, show decide (prest t.data.toList ≠ []) = true from e3]
    unfold Hid at HI
    rw [hix] at HI
    have HI2 := Lib.hid HI
    have c1 : (0 : Int) ≤ (i : Int) := by omega
    have c2 : (i : Int) ≤ (t.size : Int) := by omega
    have c3 : (0 : Int) ≤ (i : Int) + 1 := by omega
    have c4 : (i : Int) + 1 ≤ (t.size : Int) := by omega
    have c5 : IntKind.i64.wrap ((i : Int) + 1) = (i : Int) + 1 := IntWalk.i64_in _ (by omega)
    have c6 : Int.toNat ((i : Int) + 1) = i + 1 := by omega
    clear HI e1 e2 e3 hh ht hcp hix hroom
    go_enter Tryz.func119, Tryz.ntmps119
    go_wp2_with (first | (go_at_call 152; refine (HI2.out _).mono ?_; rintro e w' ⟨rfl, rfl⟩))
    go_region
    all_goals
      go_wp2_with fail
      go_ret3
      exact ⟨rfl, (Below.refl _ _).drew⟩
theorem cut_v (t : ByteArray) (w : World) (hs : t.size ≤ 9223372036854775806) :
    Calls Tryz.prog 74 #[.string t, .string ⟨#[46]⟩] w fun e w' => e = .returned (.tuple #[.string (headS t), .string (tailS t), .bool (decide (prest t.data.toList ≠ []))]) ∧ Below w.heap.size w w' := by
  have HC := Lib.hid (cutS_v t w hs)
  obtain ⟨H, hH⟩ : ∃ H, H = headS t := ⟨_, rfl⟩
  obtain ⟨A, hA⟩ : ∃ A, A = tailS t := ⟨_, rfl⟩
  obtain ⟨b, hb⟩ : ∃ b, b = decide (prest t.data.toList ≠ []) := ⟨_, rfl⟩
  unfold Hid at HC
  rw [← hH, ← hA, ← hb] at HC ⊢
  have HC := Lib.hid HC
  clear hH hA hb hs
  go_enter Tryz.func74, Tryz.ntmps74
  go_wp2_with fail
  refine HC.out.mono ?_; rintro e w' ⟨rfl, hb⟩
  have HB := Lib.hid hb
  clear hb
  go_wp2_with fail
  go_ret3
  exact ⟨rfl, HB.out⟩
end Go.Proofs.YtobiepkhommeaaaGreatDoor
/- Texts of rational numbers: the digits behind a point, and Parse. -/
namespace Go.Proofs.YtobiepkhommeaaaGreatDoor
open Go.RowKit

/-- the variable strconv.ErrSyntax holds an error or none -/
def ErrV (w : World) : Prop := ∃ ev, w.cell? ⟨6, 0, none⟩ = some ev ∧ (ev = .nilIface ∨ ∃ te pe, ev = .iface te pe)
theorem ErrV.below {w w' : World} (h : ErrV w) (b : Below w.heap.size w w') : ErrV w' := by
  obtain ⟨ev, h1, h2⟩ := h
  exact ⟨ev, (b.cell (World.block_lt_of_cell? _ _ h1)).trans h1, h2⟩
def Tail (l : List UInt8) : Prop := Digs l ∧ l ≠ [] ∧ l.length ≤ 12
def FracPost (l : List UInt8) (w : World) (e : Ending) (w' : World) : Prop :=
  (Tail l ∧ ∃ ao c, e = .returned (.tuple #[.slice ao (dig (dv 0 l)).length c, .bool true]) ∧ Fr w.heap.size w' ao c (dig (dv 0 l)) ∧ Below w.heap.size w w') ∨ (¬ Tail l ∧ e = .returned (.tuple #[.slice none 0 0, .bool false]) ∧ Below w.heap.size w w')

set_option maxHeartbeats 2000000 in
theorem frac_v (s : ByteArray) (w : World) (hs : s.size ≤ 1000) (hev : ErrV w) : Calls Tryz.prog 156 #[.string s] w (FracPost s.data.toList w) := by
  have hsl := size_list s
  by_cases h12 : 12 < s.size
  · have HX : Hid (¬ Tail s.data.toList) := fun h => by have := h.2.2; omega
    have h12I : (12 : Int) < (s.size : Int) := by omega
    clear hev hsl
    go_enter Tryz.func156, Tryz.ntmps156
    go_wp2_with fail
    go_ret2
    exact .inr ⟨HX.out, rfl, Below.refl _ _⟩
  · have h12I : ¬ (12 : Int) < (s.size : Int) := by omega
    obtain ⟨h1, h2⟩ := parse_tail (l := s.data.toList) (by omega)
    by_cases hd : Digs s.data.toList ∧ s.data.toList ≠ []
    · obtain ⟨v, hv⟩ : ∃ v, v = dv 0 s.data.toList := ⟨_, rfl⟩
      have hvb : v < 18446744073709551616 := by
        rw [hv]
        exact Nat.lt_of_lt_of_le (dv_lt hd.1) (Nat.le_trans (Nat.pow_le_pow_right (by omega) (show s.data.toList.length ≤ 12 by omega)) (by omega))
      have PU : Hid (∀ w, Calls Tryz.prog 184 #[.string s, .int .i64 10, .int .i64 64] w fun e w' => e = .returned (.tuple #[.int .u64 (v : Int), .nilIface]) ∧ Below w.heap.size w w') := fun w =>
        (Tryz.strconv_ParseUint_10_at64_ok s (by omega) v (by rw [hv]; exact h1 hd) w).mono fun e w' ⟨he, hw⟩ => ⟨he, by
          rcases hw with rfl | rfl
          · exact Below.refl _ _
          · exact Lib.bytesWorld_below _ _ _⟩
      have HX : Hid (Tail s.data.toList) := ⟨hd.1, hd.2, by omega⟩
      have HV := Lib.hid hv
      have FU : Hid (∀ w, Calls Tryz.prog 94 #[.int .u64 (v : Int)] w (Makes v w)) := fun w => FromUint_num v _ rfl hvb w
      clear hev hsl h1 h2 hd hv
      go_enter Tryz.func156, Tryz.ntmps156
      go_wp2_with fail
      refine (PU.out _).mono ?_; rintro e w1 ⟨rfl, b1⟩
      have B1 := Lib.hid b1
      clear b1
      go_wp2_with fail
      refine (FU.out _).mono ?_; rintro e w2 ⟨a2, c2, rfl, f2, b2⟩
      have F2 := Lib.hid (f2.mono B1.out.size)
      have B2 := Lib.hid (B1.out.trans (b2.mono B1.out.size))
      rw [HV.out] at F2 ⊢
      clear f2 b2
      go_wp2_with fail
      go_ret2
      exact .inl ⟨HX.out, a2, c2, rfl, F2.out, B2.out⟩
    · have HX : Hid (¬ Tail s.data.toList) := fun h => hd ⟨h.1, h.2.1⟩
      have PU : Hid (Calls Tryz.prog 184 #[.string s, .int .i64 10, .int .i64 64] w fun e w' => ∃ N, e = .returned (.tuple #[.int .u64 0, .iface 203 (.pointer (some ⟨N, 0, none⟩))]) ∧ Below w.heap.size w w') := by
        obtain ⟨ev, e1, e2⟩ := hev
        exact (Any.strconv_ParseUint_10_at64_syntax Tryz.laysPu14 s (by omega) (h2 hd) ev w e1 e2).mono fun e w' ⟨N, he, _, _, hb⟩ => ⟨N, he, hb⟩
      clear hev hsl h1 h2 hd
      go_enter Tryz.func156, Tryz.ntmps156
      go_wp2_with fail
      refine PU.out.mono ?_; rintro e w1 ⟨N, rfl, b1⟩
      have B1 := Lib.hid b1
      clear b1
      go_wp2_with fail
      go_ret2
      exact .inr ⟨HX.out, rfl, B1.out⟩

/-- a number, or the zero and the error of the form -/
def FormRes (c : Prop) (q : Rat) (k : Nat) (w : World) (e : Ending) (w' : World) : Prop := ∃ s ao n ca bo m cb er, e = .returned (.tuple #[.agg #[.bool s, .slice ao n ca, .slice bo m cb], .int .i64 er]) ∧ CQ w.heap.size w' s ao n ca bo m cb q k ∧ (c ∧ er = 22 ∨ ¬ c ∧ er = 0) ∧ Below w.heap.size w w'
theorem FormRes.bad {c : Prop} {q : Rat} {k : Nat} {w w' : World} (hc : c) (hq : q = 0) (hk : 1 ≤ k) (hk2 : k ≤ 549755813888) (hb : Below w.heap.size w w') : FormRes c q k w (.returned (.tuple #[.agg #[.bool false, .slice none 0 0, .slice none 0 0], .int .i64 22])) w' := by
  subst hq
  exact ⟨_, _, _, _, _, _, _, _, rfl, cq_zero _ _ k hk hk2, .inl ⟨hc, rfl⟩, hb⟩
theorem FormRes.ok {c : Prop} {q : Rat} {k : Nat} {w w' : World} {e : Ending} (hc : ¬ c) (h : MakesE q k w e w') : FormRes c q k w e w' := by
  obtain ⟨s, ao, n, ca, bo, m, cb, rfl, h1, h2⟩ := h
  exact ⟨_, _, _, _, _, _, _, _, rfl, h1, .inr ⟨hc, rfl⟩, h2⟩
open Classical in
/-- the number of a text -/
noncomputable def pqv (l : List UInt8) : Rat := if pOk (pneg l) (pbody l) then rq (pneg l) (dv 0 (phead (pbody l) ++ ptail (pbody l))) (10 ^ (ptail (pbody l)).length) else 0
theorem pqv_bad {l : List UInt8} (h : ¬ pOk (pneg l) (pbody l)) : pqv l = 0 := if_neg h
theorem pqv_ok {l : List UInt8} (h : pOk (pneg l) (pbody l)) : pqv l = rq (pneg l) (dv 0 (phead (pbody l) ++ ptail (pbody l))) (10 ^ (ptail (pbody l)).length) := if_pos h
theorem dv_both (h t : List UInt8) : dv 0 (h ++ t) = dv 0 h * 10 ^ t.length + dv 0 t := by rw [dv_append, dv_shift]

set_option maxHeartbeats 8000000 in
set_option maxRecDepth 100000 in
theorem qParse_v (s : ByteArray) (w : World) (hs : s.size ≤ 1000) (hev : ErrV w) :
    Calls Tryz.prog 123 #[.string s] w (FormRes (¬ pOk (pneg s.data.toList) (pbody s.data.toList)) (pqv s.data.toList) 512 w) := by
  obtain ⟨W1, hW1, B0, X0, hs1⟩ := boxR w
  obtain ⟨ng, hng⟩ : ∃ b, b = pneg s.data.toList := ⟨_, rfl⟩
  obtain ⟨T, hT⟩ : ∃ T, T = bodyS s := ⟨_, rfl⟩
  have hTl : T.data.toList = pbody s.data.toList := by rw [hT]; exact bodyS_list s
  have hTs : T.size ≤ 1000 := by rw [hT]; exact Nat.le_trans (bodyS_size s) hs
  obtain ⟨H, hH⟩ : ∃ H, H = headS T := ⟨_, rfl⟩
  obtain ⟨A, hA⟩ : ∃ A, A = tailS T := ⟨_, rfl⟩
  have hHl : H.data.toList = phead T.data.toList := by rw [hH]; rfl
  have hAl : A.data.toList = ptail T.data.toList := by rw [hA]; rfl
  have hHs : H.size ≤ 1000 := by
    have h1 := size_list H
    have h2 := size_list T
    have h3 := phead_len T.data.toList
    rw [hHl] at h1
    omega
  have hAs : A.size ≤ 1000 := by
    have h1 := size_list A
    have h2 := size_list T
    have h3 := ptail_len T.data.toList
    rw [hAl] at h1
    omega
  obtain ⟨pt, hpt⟩ : ∃ b, b = decide (prest T.data.toList ≠ []) := ⟨_, rfl⟩
  have CP : Hid (∀ w, Calls Tryz.prog 155 #[.string s, .string ⟨#[45]⟩] w fun e w' => e = .returned (.tuple #[.string T, .bool ng]) ∧ Below w.heap.size w w') := fun w => by
    rw [hT, hng]; exact cutPrefix_v s w
  have CC : Hid (∀ w, Calls Tryz.prog 74 #[.string T, .string ⟨#[46]⟩] w fun e w' => e = .returned (.tuple #[.string H, .string A, .bool pt]) ∧ Below w.heap.size w w') := fun w => by
    rw [hH, hA, hpt]; exact cut_v T w (by omega)
  have NP : Hid (∀ w, Calls Tryz.prog 120 #[.string H] w (PowPost (txtWhy H.data.toList) (txtRes H.data.toList) w)) := fun w => Parse_any H w (by omega)
  have FR : Hid (∀ w', Below w.heap.size w w' → Calls Tryz.prog 156 #[.string A] w' (FracPost A.data.toList w')) := fun w' hb => frac_v A w' hAs (hev.below hb)
  obtain ⟨c, hc⟩ : ∃ c : Prop, c = ¬ pOk (pneg s.data.toList) (pbody s.data.toList) := ⟨_, rfl⟩
  obtain ⟨q, hq⟩ : ∃ q, q = pqv s.data.toList := ⟨_, rfl⟩
  obtain ⟨h, hh⟩ : ∃ h, h = H.data.toList := ⟨_, rfl⟩
  obtain ⟨t, ht⟩ : ∃ t, t = A.data.toList := ⟨_, rfl⟩
  have hiff : pOk (pneg s.data.toList) (pbody s.data.toList) ↔ (Good h ∧ h.length ≤ 30 ∧ (pt = true → Tail t) ∧ ¬ (ng = true ∧ dv 0 (h ++ t) = 0)) := by
    rw [hh, ht, hHl, hAl, hTl, hng, hpt, hTl]
    unfold pOk Tail
    constructor
    · rintro ⟨h1, h2, h3, h4⟩; exact ⟨h1, h2, fun k => h3 (of_decide_eq_true k), h4⟩
    · rintro ⟨h1, h2, h3, h4⟩; exact ⟨h1, h2, fun k => h3 (decide_eq_true k), h4⟩
  have hptF : pt = false → t = [] := fun k => by
    rw [hpt] at k
    rw [ht, hAl]
    have : prest T.data.toList = [] := Classical.not_not.1 (of_decide_eq_false k)
    unfold ptail
    rw [this]; rfl
  have BAD : Hid (¬ (Good h ∧ h.length ≤ 30 ∧ (pt = true → Tail t) ∧ ¬ (ng = true ∧ dv 0 (h ++ t) = 0)) → ∀ w', Below w.heap.size w w' → FormRes c q 512 w (.returned (.tuple #[.agg #[.bool false, .slice none 0 0, .slice none 0 0], .int .i64 22])) w') := fun k w' hb => by
    have k2 := fun x => k (hiff.1 x)
    exact FormRes.bad (by rw [hc]; exact k2) (by rw [hq]; exact pqv_bad k2) (by omega) (by omega) hb
  have GOOD : Hid ((Good h ∧ h.length ≤ 30 ∧ (pt = true → Tail t) ∧ ¬ (ng = true ∧ dv 0 (h ++ t) = 0)) → ∀ e w', MakesE (rq ng (dv 0 (h ++ t)) (10 ^ t.length)) 512 w e w' → FormRes c q 512 w e w') := fun k e w' hm => by
    have k2 := hiff.2 k
    refine FormRes.ok (by rw [hc]; exact not_not_intro k2) ?_
    rw [hq, pqv_ok k2, ← hTl, ← hHl, ← hAl, ← hh, ← ht, ← hng]
    exact hm
  have hlh : h.length = H.size := by rw [hh]; exact size_list H
  have hlt : t.length = A.size := by rw [ht]; exact size_list A
  unfold Hid at NP FR
  rw [← hh] at NP
  rw [← ht] at FR
  rw [← hc, ← hq]
  have FR := Lib.hid FR
  have HL := Lib.hid hlh
  have TL := Lib.hid hlt
  have HPF := Lib.hid hptF
  clear hs hev hs1 hng hT hTl hTs hH hA hHl hAl hpt hc hq hh ht hiff hlh hlt hptF
  by_cases hg : Good h
  · obtain ⟨e1, e2⟩ := txt_fine hg (by have := HL.out; omega)
    rw [e1, e2] at NP
    have NP := Lib.hid NP
    have HG := Lib.hid hg
    clear e1 e2 hg
    by_cases h30 : 30 < H.size
    · have h30I : (30 : Int) < (H.size : Int) := by omega
      have HB : Hid (¬ (Good h ∧ h.length ≤ 30 ∧ (pt = true → Tail t) ∧ ¬ (ng = true ∧ dv 0 (h ++ t) = 0))) := fun k => by have := k.2.1; have := HL.out; omega
      go_enter Tryz.func123, Tryz.ntmps123
      go_wp2_with fail
      rw [← hW1]
      clear hW1
      refine (CP.out _).mono ?_; rintro e W2 ⟨rfl, b2⟩
      have X2 := X0.below b2
      have B2 := B0.trans (b2.mono B0.size)
      clear b2
      go_wp2_with fail
      refine (CC.out _).mono ?_; rintro e W3 ⟨rfl, b3⟩
      have X3 := X2.below b3
      have B3 := B2.trans (b3.mono B2.size)
      clear b3
      go_wp2_with fail
      refine (NP.out _).mono ?_; rintro e W4 ⟨a4, c4, rfl, f4, b4⟩
      have X4 := X3.below b4
      have B4 := B3.trans (b4.mono B3.size)
      clear f4 b4
      obtain ⟨u0, u1, u2, q0, q1, q2, z0, z1, z2⟩ := X4.facts
      go_wp2_with fail
      refine bodyPost_ret (v := .tuple #[.agg #[.bool false, .slice none 0 0, .slice none 0 0], .int .i64 22]) (by simp [results, Tryz.results123, go_sem, q0, q1, q2]) rfl ?_
      exact BAD.out HB.out _ (below3 B4 (Nat.le_refl _) _ _ _)
    · have h30I : ¬ (30 : Int) < (H.size : Int) := by omega
      have H30 : Hid (h.length ≤ 30) := by unfold Hid; have := HL.out; omega
      go_enter Tryz.func123, Tryz.ntmps123
      go_wp2_with fail
      rw [← hW1]
      clear hW1
      refine (CP.out _).mono ?_; rintro e W2 ⟨rfl, b2⟩
      have X2 := X0.below b2
      have B2 := B0.trans (b2.mono B0.size)
      clear b2
      go_wp2_with fail
      refine (CC.out _).mono ?_; rintro e W3 ⟨rfl, b3⟩
      have X3 := X2.below b3
      have B3 := B2.trans (b3.mono B2.size)
      clear b3
      go_wp2_with fail
      refine (NP.out _).mono ?_; rintro e W4 ⟨a4, c4, rfl, f4, b4⟩
      have X4 := X3.below b4
      have B4 := B3.trans (b4.mono B3.size)
      have N4 := Num.of_fr f4 (sm_dv HG.out.1 (by have := HL.out; omega))
      have NV4 := Lib.hid N4
      clear f4 b4 N4
      cases hpt : pt with
      | false =>
        have ht0 : t = [] := HPF.out hpt
        have HT3 : Hid (false = true → Tail t) := fun k => by cases k
        subst hpt
        obtain ⟨v, hv⟩ : ∃ v, v = dv 0 (h ++ t) := ⟨_, rfl⟩
        have hv2 : dv 0 h = v := by rw [hv, ht0, List.append_nil]
        have HV := Lib.hid hv
        have HD : Hid (Digs (h ++ t)) := by unfold Hid; rw [ht0, List.append_nil]; exact HG.out.1
        have T12 : Hid (A.size ≤ 12) := by unfold Hid; have := TL.out; rw [ht0] at this; simp at this; omega
        rw [hv2] at NV4 ⊢
        obtain ⟨nl, hnl⟩ : ∃ n, n = (dig v).length := ⟨_, rfl⟩
        have NL := Lib.hid hnl
        unfold Hid at NV4
        rw [← hnl] at NV4 ⊢
        have NV := Lib.hid NV4
        clear NV4 hv hv2 ht0 hnl
        by_cases hneg : ng = true ∧ v = 0
        · obtain ⟨hn1, hn2⟩ := hneg
          subst hn1
          have hl0 : ((nl : Int) == 0) = true := by rw [NL.out, hn2, dig_zero]; rfl
          have HB : Hid (¬ (Good h ∧ h.length ≤ 30 ∧ (false = true → Tail t) ∧ ¬ (true = true ∧ dv 0 (h ++ t) = 0))) := fun k => k.2.2.2 ⟨rfl, by rw [← HV.out]; exact hn2⟩
          clear hn2
          obtain ⟨u0, u1, u2, q0, q1, q2, z0, z1, z2⟩ := X4.facts
          go_wp2_with fail
          refine bodyPost_ret (v := .tuple #[.agg #[.bool false, .slice none 0 0, .slice none 0 0], .int .i64 22]) (by simp [results, Tryz.results123, go_sem, q0, q1, q2]) rfl ?_
          exact BAD.out HB.out _ (below3 B4 (Nat.le_refl _) _ _ _)
        · have HK : Hid (Good h ∧ h.length ≤ 30 ∧ (false = true → Tail t) ∧ ¬ (ng = true ∧ dv 0 (h ++ t) = 0)) := ⟨HG.out, H30.out, HT3.out, by rw [← HV.out]; exact hneg⟩
          have SV : Hid (Sm v 512) := by unfold Hid; rw [HV.out]; exact sm_dv HD.out (by rw [List.length_append]; have := HL.out; have := TL.out; omega)
          have TN : Hid (∀ w, Calls Tryz.prog 135 #[.int .i64 (A.size : Int)] w (Makes (10 ^ t.length) w)) := fun w => by
            rw [TL.out]; exact tens_num A.size (by have := T12.out; omega) _ rfl w
          have ST : Hid (Sm (10 ^ t.length) 512) := (ten_sm (by have := T12.out; have := TL.out; omega)).up (by omega) (by omega)
          obtain ⟨D, hD⟩ : ∃ D, D = 10 ^ t.length := ⟨_, rfl⟩
          have HDD := Lib.hid hD
          have hD0 : 0 < D := by rw [hD]; exact Nat.pow_pos (by omega)
          unfold Hid at TN ST
          rw [← hD] at TN ST
          have TN' := Lib.hid TN
          have ST' := Lib.hid ST
          clear TN ST hD
          have rest : Hid (ng = false ∨ ng = true ∧ ((nl : Int) == 0) = false) := by
            cases hn : ng with
            | false => exact .inl rfl
            | true => exact .inr ⟨rfl, beq_eq_false_iff_ne.2 (fun e => hneg ⟨hn, by
                by_cases hv0 : v = 0
                · exact hv0
                · have := dig_length_pos (Nat.pos_of_ne_zero hv0)
                  have := NL.out
                  omega⟩)⟩
          clear hneg
          rcases rest with rfl | ⟨rfl, hl0⟩
          all_goals
            go_wp2_with fail
            refine (TN'.out _).mono ?_; rintro e W8 ⟨a8, c8, rfl, f8, b8⟩
            have X8 := X4.below b8
            have B8 := B4.trans (b8.mono B4.size)
            have N8 := NV.out.below b8
            have T8 := Num.of_fr f8 ST'.out
            clear f8 b8
            go_wp2_with fail
            refine (reduced_any _ a4 a8 _ c4 _ c8 v D 512 _ N8 T8 hD0 SV.out ST'.out).mono ?_
            rintro e W9 ⟨s9, a9, n9, c9, o9, m9, d9, rfl, hcq, b9⟩
            have X9 := X8.below b9
            have hl := GOOD.out HK.out _ _ (by rw [← HV.out, ← HDD.out]; exact MakesE.of (MakesQ.lift hcq rfl X8.lt (Nat.le_refl _) (B8.trans (b9.mono B8.size)) (.bool s9) (.slice a9 n9 c9) (.slice o9 m9 d9)))
            have HF := Lib.hid hl
            obtain ⟨u0, u1, u2, q0, q1, q2, z0, z1, z2⟩ := X9.facts
            clear hl hcq b9 N8 T8
            go_wp2_with fail
            refine bodyPost_ret (v := .tuple #[.agg #[.bool s9, .slice a9 n9 c9, .slice o9 m9 d9], .int .i64 0]) (by simp [results, Tryz.results123, go_sem, q0, q1, q2]) rfl ?_
            exact HF.out
      | true =>
        subst hpt
        go_wp2_with fail
        refine (FR.out _ B4).mono ?_; rintro e W5 (⟨htl, a5, c5, rfl, f5, b5⟩ | ⟨hno, rfl, b5⟩)
        · have X5 := X4.below b5
          have B5 := B4.trans (b5.mono B4.size)
          have NH := Lib.hid (NV4.out.below b5)
          have NT := Lib.hid (Num.of_fr f5 (sm_dv htl.1 (by have := htl.2.2; omega)))
          have HTL : Hid (Tail t) := htl
          have T12 : Hid (A.size ≤ 12) := by unfold Hid; have := htl.2.2; have := TL.out; omega
          have HD : Hid (Digs (h ++ t)) := fun x hx => (List.mem_append.1 hx).elim (HG.out.1 x) (htl.1 x)
          have TN0 : Hid (∀ w, Calls Tryz.prog 135 #[.int .i64 (A.size : Int)] w (Makes (10 ^ t.length) w)) := fun w => by
            rw [TL.out]; exact tens_num A.size (by have := T12.out; omega) _ rfl w
          have ST0 : Hid (Sm (10 ^ t.length) 200) := ten_sm (by have := T12.out; have := TL.out; omega)
          have SH : Hid (Sm (dv 0 h) 512) := sm_dv HG.out.1 (by have := HL.out; omega)
          have SM : Hid (Sm (dv 0 h * 10 ^ t.length) 712) := SH.out.mul ST0.out (by omega)
          obtain ⟨v, hv⟩ : ∃ v, v = dv 0 (h ++ t) := ⟨_, rfl⟩
          have HV := Lib.hid hv
          have HV2 : Hid (dv 0 h * 10 ^ t.length + dv 0 t = v) := by unfold Hid; rw [hv, dv_both]
          obtain ⟨nh, hnh⟩ : ∃ n, n = (dig (dv 0 h)).length := ⟨_, rfl⟩
          obtain ⟨nt, hnt⟩ : ∃ n, n = (dig (dv 0 t)).length := ⟨_, rfl⟩
          unfold Hid at NH NT
          rw [← hnh] at NH ⊢
          rw [← hnt] at NT ⊢
          have NH := Lib.hid NH
          have NT := Lib.hid NT
          clear f5 b5 hv hnh hnt htl
          go_wp2_with fail
          refine (TN0.out _).mono ?_; rintro e W6 ⟨a6, c6, rfl, f6, b6⟩
          have X6 := X5.below b6
          have B6 := B5.trans (b6.mono B5.size)
          have NH6 := NH.out.below b6
          have NT6 := Lib.hid (NT.out.below b6)
          have N6 := Num.of_fr f6 ST0.out
          clear f6 b6
          go_wp2_with fail
          refine (Mul_num NH6 N6).mono ?_; rintro e W7 ⟨a7, c7, rfl, f7, b7⟩
          have X7 := X6.below b7
          have B7 := B6.trans (b7.mono B6.size)
          have NT7 := NT6.out.below b7
          have N7 := Num.of_fr f7 SM.out
          clear f7 b7 NH6 N6
          go_wp2_with fail
          refine (Add_num N7 NT7).mono ?_; rintro e W10 ⟨a10, c10, rfl, f10, b10⟩
          rw [HV2.out] at f10 ⊢
          have X10 := X7.below b10
          have B10 := B7.trans (b10.mono B7.size)
          have N10 := Num.of_fr f10 (show Sm v 512 by rw [HV.out]; exact sm_dv HD.out (by rw [List.length_append]; have := HL.out; have := TL.out; omega))
          obtain ⟨nl, hnl⟩ : ∃ n, n = (dig v).length := ⟨_, rfl⟩
          have NL := Lib.hid hnl
          rw [← hnl] at N10 ⊢
          have NV := Lib.hid N10
          clear f10 b10 N7 NT7 N10 hnl
          by_cases hneg : ng = true ∧ v = 0
          · obtain ⟨hn1, hn2⟩ := hneg
            subst hn1
            have hl0 : ((nl : Int) == 0) = true := by rw [NL.out, hn2, dig_zero]; rfl
            have HB : Hid (¬ (Good h ∧ h.length ≤ 30 ∧ (true = true → Tail t) ∧ ¬ (true = true ∧ dv 0 (h ++ t) = 0))) := fun k => k.2.2.2 ⟨rfl, by rw [← HV.out]; exact hn2⟩
            clear hn2
            obtain ⟨u0, u1, u2, q0, q1, q2, z0, z1, z2⟩ := X10.facts
            go_wp2_with fail
            refine bodyPost_ret (v := .tuple #[.agg #[.bool false, .slice none 0 0, .slice none 0 0], .int .i64 22]) (by simp [results, Tryz.results123, go_sem, q0, q1, q2]) rfl ?_
            exact BAD.out HB.out _ (below3 B10 (Nat.le_refl _) _ _ _)
          · have HK : Hid (Good h ∧ h.length ≤ 30 ∧ (true = true → Tail t) ∧ ¬ (ng = true ∧ dv 0 (h ++ t) = 0)) := ⟨HG.out, H30.out, (fun _ => HTL.out), by rw [← HV.out]; exact hneg⟩
            have SV : Hid (Sm v 512) := by unfold Hid; rw [HV.out]; exact sm_dv HD.out (by rw [List.length_append]; have := HL.out; have := TL.out; omega)
            have TN : Hid (∀ w, Calls Tryz.prog 135 #[.int .i64 (A.size : Int)] w (Makes (10 ^ t.length) w)) := fun w => by
              rw [TL.out]; exact tens_num A.size (by have := T12.out; omega) _ rfl w
            have ST : Hid (Sm (10 ^ t.length) 512) := (ten_sm (by have := T12.out; have := TL.out; omega)).up (by omega) (by omega)
            obtain ⟨D, hD⟩ : ∃ D, D = 10 ^ t.length := ⟨_, rfl⟩
            have HDD := Lib.hid hD
            have hD0 : 0 < D := by rw [hD]; exact Nat.pow_pos (by omega)
            unfold Hid at TN ST
            rw [← hD] at TN ST
            have TN' := Lib.hid TN
            have ST' := Lib.hid ST
            clear TN ST hD
            have rest : Hid (ng = false ∨ ng = true ∧ ((nl : Int) == 0) = false) := by
              cases hn : ng with
              | false => exact .inl rfl
              | true => exact .inr ⟨rfl, beq_eq_false_iff_ne.2 (fun e => hneg ⟨hn, by
                  by_cases hv0 : v = 0
                  · exact hv0
                  · have := dig_length_pos (Nat.pos_of_ne_zero hv0)
                    have := NL.out
                    omega⟩)⟩
            clear hneg
            rcases rest with rfl | ⟨rfl, hl0⟩
            all_goals
              go_wp2_with fail
              refine (TN'.out _).mono ?_; rintro e W8 ⟨a8, c8, rfl, f8, b8⟩
              have X8 := X10.below b8
              have B8 := B10.trans (b8.mono B10.size)
              have N8 := NV.out.below b8
              have T8 := Num.of_fr f8 ST'.out
              clear f8 b8
              go_wp2_with fail
              refine (reduced_any _ a10 a8 _ c10 _ c8 v D 512 _ N8 T8 hD0 SV.out ST'.out).mono ?_
              rintro e W9 ⟨s9, a9, n9, c9, o9, m9, d9, rfl, hcq, b9⟩
              have X9 := X8.below b9
              have hl := GOOD.out HK.out _ _ (by rw [← HV.out, ← HDD.out]; exact MakesE.of (MakesQ.lift hcq rfl X8.lt (Nat.le_refl _) (B8.trans (b9.mono B8.size)) (.bool s9) (.slice a9 n9 c9) (.slice o9 m9 d9)))
              have HF := Lib.hid hl
              obtain ⟨u0, u1, u2, q0, q1, q2, z0, z1, z2⟩ := X9.facts
              clear hl hcq b9 N8 T8
              go_wp2_with fail
              refine bodyPost_ret (v := .tuple #[.agg #[.bool s9, .slice a9 n9 c9, .slice o9 m9 d9], .int .i64 0]) (by simp [results, Tryz.results123, go_sem, q0, q1, q2]) rfl ?_
              exact HF.out
        · have X5 := X4.below b5
          have B5 := B4.trans (b5.mono B4.size)
          have HB : Hid (¬ (Good h ∧ h.length ≤ 30 ∧ (true = true → Tail t) ∧ ¬ (ng = true ∧ dv 0 (h ++ t) = 0))) := fun k => hno (k.2.2.1 rfl)
          clear b5 hno
          obtain ⟨u0, u1, u2, q0, q1, q2, z0, z1, z2⟩ := X5.facts
          go_wp2_with fail
          refine bodyPost_ret (v := .tuple #[.agg #[.bool false, .slice none 0 0, .slice none 0 0], .int .i64 22]) (by simp [results, Tryz.results123, go_sem, q0, q1, q2]) rfl ?_
          exact BAD.out HB.out _ (below3 B5 (Nat.le_refl _) _ _ _)
  · obtain ⟨e1, e2⟩ := txt_bad hg
    rw [e1, e2] at NP
    have NP := Lib.hid NP
    have HB : Hid (¬ (Good h ∧ h.length ≤ 30 ∧ (pt = true → Tail t) ∧ ¬ (ng = true ∧ dv 0 (h ++ t) = 0))) := fun k => hg k.1
    clear e1 e2 hg
    go_enter Tryz.func123, Tryz.ntmps123
    go_wp2_with fail
    rw [← hW1]
    clear hW1
    refine (CP.out _).mono ?_; rintro e W2 ⟨rfl, b2⟩
    have X2 := X0.below b2
    have B2 := B0.trans (b2.mono B0.size)
    clear b2
    go_wp2_with fail
    refine (CC.out _).mono ?_; rintro e W3 ⟨rfl, b3⟩
    have X3 := X2.below b3
    have B3 := B2.trans (b3.mono B2.size)
    clear b3
    go_wp2_with fail
    refine (NP.out _).mono ?_; rintro e W4 ⟨a4, c4, rfl, f4, b4⟩
    have X4 := X3.below b4
    have B4 := B3.trans (b4.mono B3.size)
    clear f4 b4
    obtain ⟨u0, u1, u2, q0, q1, q2, z0, z1, z2⟩ := X4.facts
    go_wp2_with fail
    refine bodyPost_ret (v := .tuple #[.agg #[.bool false, .slice none 0 0, .slice none 0 0], .int .i64 22]) (by simp [results, Tryz.results123, go_sem, q0, q1, q2]) rfl ?_
    exact BAD.out HB.out _ (below3 B4 (Nat.le_refl _) _ _ _)
end Go.Proofs.YtobiepkhommeaaaGreatDoor
