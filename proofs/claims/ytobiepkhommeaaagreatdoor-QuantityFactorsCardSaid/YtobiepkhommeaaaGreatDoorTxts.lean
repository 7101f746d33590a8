import Derived.Test.YtobiepkhommeaaaGreatDoorFmts
import Derived.Test.YtobiepkhommeaaaGreatDoorPowsZ
import Derived.Laws.Strings
import Derived.Deep.LoopGhost
import Derived.Deep.RegionWith
/- Plain facts on decimal texts. No program here. -/
namespace Go.Proofs.YtobiepkhommeaaaGreatDoor

/-- the value of digits behind a number -/
def dstep (a : Nat) (c : UInt8) : Nat := a * 10 + (c.toNat - 48)
def dv (a : Nat) (l : List UInt8) : Nat := l.foldl dstep a
theorem dv_nil (a : Nat) : dv a [] = a := rfl
theorem dv_cons (a : Nat) (c : UInt8) (l : List UInt8) : dv a (c :: l) = dv (a * 10 + (c.toNat - 48)) l := List.foldl_cons ..
theorem dv_append (a : Nat) (l m : List UInt8) : dv a (l ++ m) = dv (dv a l) m := by
  induction l generalizing a with
  | nil => rw [List.nil_append, dv_nil]
  | cons c l ih => rw [List.cons_append, dv_cons, dv_cons, ih]
theorem dv_snoc (a : Nat) (l : List UInt8) (c : UInt8) : dv a (l ++ [c]) = dv a l * 10 + (c.toNat - 48) := by rw [dv_append, dv_cons, dv_nil]
theorem dv_shift (a : Nat) (l : List UInt8) : dv a l = a * 10 ^ l.length + dv 0 l := by
  induction l generalizing a with
  | nil => simp [dv_nil]
  | cons c l ih =>
    rw [dv_cons, dv_cons, ih, ih (0 * 10 + (c.toNat - 48)), List.length_cons, Nat.pow_succ]; grind
/-- a digit -/
def isd (c : UInt8) : Prop := 48 ≤ c.toNat ∧ c.toNat ≤ 57
def Digs (l : List UInt8) : Prop := ∀ c ∈ l, isd c
theorem Digs.take {l : List UInt8} (h : Digs l) (k : Nat) : Digs (l.take k) := fun c hc => h c (List.mem_of_mem_take hc)
theorem Digs.drop {l : List UInt8} (h : Digs l) (k : Nat) : Digs (l.drop k) := fun c hc => h c (List.mem_of_mem_drop hc)
theorem Digs.get {l : List UInt8} (h : Digs l) (k : Nat) (hk : k < l.length) : 48 ≤ l[k].toNat ∧ l[k].toNat ≤ 57 := h _ (List.getElem_mem hk)
theorem dv_lt {l : List UInt8} (h : Digs l) : dv 0 l < 10 ^ l.length := by
  have aux : ∀ (m : List UInt8) (a : Nat), Digs m → dv a m < (a + 1) * 10 ^ m.length := by
    intro m
    induction m with
    | nil => intro a _; simp [dv_nil]
    | cons c m ih =>
      intro a hm
      have h1 := ih (a * 10 + (c.toNat - 48)) (fun x hx => hm x (by simp [hx]))
      have h2 := hm c (by simp)
      have h3 : c.toNat - 48 ≤ 9 := by have := h2.2; omega
      have h4 : (a * 10 + (c.toNat - 48) + 1) * 10 ^ m.length ≤ (a + 1) * 10 * 10 ^ m.length := Nat.mul_le_mul_right _ (by omega)
      rw [dv_cons, List.length_cons, Nat.pow_succ]
      have e : (a + 1) * (10 ^ m.length * 10) = (a + 1) * 10 * 10 ^ m.length := by grind
      rw [e]; omega
  have := aux l 0 h
  simpa using this
/-- the decimal numbers: all digits, no 0 ahead -/
def Good (l : List UInt8) : Prop := Digs l ∧ l ≠ [] ∧ (l = [48] ∨ l.head? ≠ some 48)
open Classical in
noncomputable def txtWhy (l : List UInt8) : Int := if Good l then (if 4096 < l.length then 14 else 0) else 13
open Classical in
noncomputable def txtRes (l : List UInt8) : Nat := if Good l ∧ l.length ≤ 4096 then dv 0 l else 0
theorem txt_bad {l : List UInt8} (h : ¬ Good l) : txtWhy l = 13 ∧ txtRes l = 0 := ⟨if_neg h, if_neg (fun k => h k.1)⟩
theorem txt_long {l : List UInt8} (h : Good l) (hl : 4096 < l.length) : txtWhy l = 14 ∧ txtRes l = 0 := ⟨(if_pos h).trans (if_pos hl), if_neg (fun k => by omega)⟩
theorem txt_fine {l : List UInt8} (h : Good l) (hl : l.length ≤ 4096) : txtWhy l = 0 ∧ txtRes l = dv 0 l := ⟨(if_pos h).trans (if_neg (by omega)), if_pos ⟨h, hl⟩⟩

/-- the digits of a number are a decimal number, and its value is the number -/
theorem toNat_digit (k : Nat) (h : k < 10) : (UInt8.ofNat (48 + k)).toNat = 48 + k := by
  rw [UInt8.toNat_ofNat']; omega
theorem dv_dec (n : Nat) : dv 0 (Lib.decDigits n) = n := by
  induction n using Nat.strongRecOn with
  | _ n ih =>
    by_cases h : n < 10
    · rw [dec_small h, dv_cons, dv_nil, toNat_digit n h]; omega
    · rw [dec_big (by omega), dv_snoc, ih (n / 10) (by omega), toNat_digit _ (Nat.mod_lt _ (by omega))]; omega
theorem digs_dec (n : Nat) : Digs (Lib.decDigits n) := by
  induction n using Nat.strongRecOn with
  | _ n ih =>
    by_cases h : n < 10
    · rw [dec_small h]; intro c hc
      rw [List.mem_singleton] at hc; subst hc
      unfold isd; rw [toNat_digit n h]; omega
    · rw [dec_big (by omega)]; intro c hc
      rcases List.mem_append.1 hc with k | k
      · exact ih (n / 10) (by omega) c k
      · rw [List.mem_singleton] at k; subst k
        unfold isd; rw [toNat_digit _ (Nat.mod_lt _ (by omega))]; omega
theorem head_dec (n : Nat) : n = 0 ∧ Lib.decDigits n = [48] ∨ 0 < n ∧ ∃ c l, Lib.decDigits n = c :: l ∧ c ≠ 48 := by
  induction n using Nat.strongRecOn with
  | _ n ih =>
    by_cases h : n < 10
    · rcases Nat.eq_zero_or_pos n with z | z
      · subst z; left; exact ⟨rfl, by rw [dec_small (by omega)]; rfl⟩
      · right; refine ⟨z, _, _, dec_small h, fun e => ?_⟩
        have := congrArg UInt8.toNat e
        rw [toNat_digit n h] at this
        have : (48 : UInt8).toNat = 48 := rfl
        omega
    · right; refine ⟨by omega, ?_⟩
      rcases ih (n / 10) (by omega) with ⟨z, _⟩ | ⟨_, c, l, e, hc⟩
      · omega
      · exact ⟨c, l ++ [UInt8.ofNat (48 + n % 10)], by rw [dec_big (by omega), e]; rfl, hc⟩
theorem good_dec (n : Nat) : Good (Lib.decDigits n) := by
  refine ⟨digs_dec n, ?_, ?_⟩
  · have := dec_pos n; intro e; rw [e] at this; simp at this
  · rcases head_dec n with ⟨_, h⟩ | ⟨_, c, l, e, hc⟩
    · exact .inl h
    · right; rw [e]; simpa using hc
/-- a decimal number's text is that of its value -/
theorem dec_dv {l : List UInt8} (h : Good l) : Lib.decDigits (dv 0 l) = l := by
  have aux : ∀ (k : Nat) (m : List UInt8), m.length = k → Digs m → m ≠ [] → (m = [48] ∨ m.head? ≠ some 48) → Lib.decDigits (dv 0 m) = m := by
    intro k
    induction k with
    | zero => intro m h1 _ h3 _; exact absurd (List.eq_nil_of_length_eq_zero h1) h3
    | succ k ih =>
      intro m h1 h2 h3 h4
      obtain ⟨p, c, hpc⟩ : ∃ p c, m = p ++ [c] := ⟨m.dropLast, m.getLast h3, (List.dropLast_concat_getLast h3).symm⟩
      subst hpc
      have hc := h2 c (by simp)
      have hcd : c.toNat - 48 < 10 := by have := hc.2; omega
      have hcc : UInt8.ofNat (48 + (c.toNat - 48)) = c := by
        apply UInt8.toNat.inj
        rw [toNat_digit _ hcd]; have := hc.1; omega
      rw [dv_snoc]
      by_cases hp : p = []
      · subst hp
        rw [dv_nil, Nat.zero_mul, Nat.zero_add, dec_small hcd, hcc]; rfl
      · have h5 : p = [48] ∨ p.head? ≠ some 48 := by
          right
          rcases h4 with h4 | h4
          · have := congrArg List.length h4
            cases p with
            | nil => exact absurd rfl hp
            | cons x y => simp at this
          · cases p with
            | nil => exact absurd rfl hp
            | cons x y => simpa using h4
        have h6 := ih p (by simp at h1; omega) (fun x hx => h2 x (by simp [hx])) hp h5
        have hpos : 0 < dv 0 p := by
          rcases Nat.eq_zero_or_pos (dv 0 p) with z | z
          · rw [z, dec_small (by omega)] at h6
            have h7 : p = [48] := h6.symm
            subst h7
            rcases h4 with h4 | h4
            · have := congrArg List.length h4; simp at this
            · simp at h4
          · exact z
        rw [dec_big (by omega), show (dv 0 p * 10 + (c.toNat - 48)) / 10 = dv 0 p by omega, show (dv 0 p * 10 + (c.toNat - 48)) % 10 = c.toNat - 48 by omega, h6, hcc]
  exact aux l.length l rfl h.1 h.2.1 h.2.2
end Go.Proofs.YtobiepkhommeaaaGreatDoor
/- Contracts of package natural: groups of digits; whether a text is a decimal number. -/
namespace Go.Proofs.YtobiepkhommeaaaGreatDoor
open Go.RowKit

theorem ret_w64 {a b : Int} (h : a = b) : Ending.returned (.int .u64 a) = .returned (.int .u64 b) := by rw [h]
theorem take_snoc (s : ByteArray) (k : Nat) (h : k < s.size) : s.data.toList.take (k + 1) = s.data.toList.take k ++ [s[k]] := by
  rw [List.take_succ_eq_append_getElem (by simpa using h)]; rfl
theorem byte_get (s : ByteArray) (k : Nat) (h : k < s.size) : s.data.toList[k]'(by simpa using h) = s[k] := rfl
theorem size_list (s : ByteArray) : s.data.toList.length = s.size := by simp

set_option maxHeartbeats 400000 in
set_option maxRecDepth 100000 in
theorem groupValue_any (s : ByteArray) (w : World) (hs : s.size ≤ 9) (hd : Digs s.data.toList) :
    Calls Tryz.prog 154 #[.string s] w fun e w' => e = .returned (.int .u64 ((dv 0 s.data.toList : Nat) : Int)) ∧ w = w' := by
  have HD := Lib.hid hd
  clear hd
  go_enter Tryz.func154, Tryz.ntmps154
  go_wp2
  go_loop [3, 7] (fun s3 s7 => ∃ k v : Nat, k ≤ s.size ∧ s7 = .int .i64 k ∧ s3 = .int .u64 v ∧ Hid (v = dv 0 (s.data.toList.take k)) ∧ v < 1000000000) (fun _ s7 => s.size - (intOf s7).toNat)
  case atStart => exact ⟨0, 0, Nat.zero_le _, rfl, rfl, rfl, by omega⟩
  case round =>
    obtain ⟨k, v, hk, rfl, rfl, hv, hvb⟩ := hrel
    by_cases hlt : k < s.size
    · have hc2 := HD.out.get k (by rw [size_list]; exact hlt)
      rw [byte_get s k hlt] at hc2
      have hlen : (s.data.toList.take (k + 1)).length ≤ 9 := by rw [List.length_take, size_list]; omega
      have hlt2 := dv_lt (HD.out.take (k + 1))
      have hp : 10 ^ (s.data.toList.take (k + 1)).length ≤ 10 ^ 9 := Nat.pow_le_pow_right (by omega) hlen
      rw [take_snoc s k hlt] at hlt2 hp
      rw [dv_snoc] at hlt2
      rw [← hv.out] at hlt2
      have hnew : Hid (v * 10 + (s[k].toNat - 48) = dv 0 (s.data.toList.take (k + 1))) := by
        show _ = _; rw [take_snoc s k hlt, dv_snoc, ← hv.out]
      obtain ⟨c, hc⟩ : ∃ c, s[k].toNat = c := ⟨_, rfl⟩
      rw [hc] at hc2 hlt2 hnew
      have hb : v * 10 + (c - 48) < 1000000000 := by have e : (10 : Nat) ^ 9 = 1000000000 := by decide
                                                     omega
      have hc3 := hc2.1
      have hc4 := hc2.2
      clear hc2 hlen hlt2 hp
      go_wp2
      go_round
      case rel => exact ⟨k + 1, v * 10 + (c - 48), by omega, by go_num, by go_num, hnew, hb⟩
      case measure => simp [intOf]; omega
    · have e : Hid (v = dv 0 s.data.toList) := by
        show _ = _; rw [hv.out, List.take_of_length_le (by rw [size_list]; omega)]
      go_wp2
      go_ret
      exact ⟨ret_w64 (by rw [← e.out]), rfl⟩
end Go.Proofs.YtobiepkhommeaaaGreatDoor
/- Contract of natural.decimal. -/
namespace Go.Proofs.YtobiepkhommeaaaGreatDoor
open Go.RowKit

/-- what decimal tells -/
def DecPost (l : List UInt8) (w : World) (e : Ending) (w' : World) : Prop := (Good l ∧ e = .returned (.bool true) ∨ ¬ Good l ∧ e = .returned (.bool false)) ∧ w = w'
theorem not_good_digit {l : List UInt8} {k : Nat} (hk : k < l.length) (h : ¬ isd l[k]) : ¬ Good l := fun g => h (g.1 _ (List.getElem_mem hk))
theorem head_byte (s : ByteArray) (h : 0 < s.size) : s.data.toList.head? = some s[0] := by
  rw [List.head?_eq_getElem?, List.getElem?_eq_getElem (by rw [size_list]; exact h)]; rfl

set_option maxHeartbeats 800000 in
set_option maxRecDepth 100000 in
theorem decimal_any (s : ByteArray) (w : World) (hs : s.size ≤ 9223372036854775807) :
    Calls Tryz.prog 153 #[.string s] w (DecPost s.data.toList w) := by
  go_enter Tryz.func153, Tryz.ntmps153
  go_wp2
  go_loop [6] (fun s6 => ∃ k : Nat, k ≤ s.size ∧ s6 = .int .i64 k ∧ Hid (Digs (s.data.toList.take k))) (fun s6 => s.size - (intOf s6).toNat)
  case atStart => exact ⟨0, Nat.zero_le _, rfl, fun c hc => by simp at hc⟩
  case round =>
    obtain ⟨k, hk, rfl, hd⟩ := hrel
    by_cases hlt : k < s.size
    · have hbl : k < s.data.toList.length := by rw [size_list]; exact hlt
      by_cases hdig : isd s[k]
      · have hnew : Hid (Digs (s.data.toList.take (k + 1))) := by
          show Digs _; rw [take_snoc s k hlt]; intro c hc
          rcases List.mem_append.1 hc with h | h
          · exact hd.out c h
          · rw [List.mem_singleton] at h; subst h; exact hdig
        unfold isd at hdig
        obtain ⟨c, hc⟩ : ∃ c, s[k].toNat = c := ⟨_, rfl⟩
        rw [hc] at hdig
        have h1 : ¬ (c : Int) < 48 := by omega
        have h2 : ¬ (57 : Int) < (c : Int) := by omega
        clear hdig
        go_wp2
        go_round
        case rel => exact ⟨k + 1, by omega, by go_num, hnew⟩
        case measure => simp [intOf]; omega
      · have hbad : Hid (¬ Good s.data.toList) := not_good_digit hbl (by rw [byte_get s k hlt]; exact hdig)
        unfold isd at hdig
        obtain ⟨c, hc⟩ : ∃ c, s[k].toNat = c := ⟨_, rfl⟩
        rw [hc] at hdig
        by_cases h1 : (c : Int) < 48
        · clear hdig
          go_wp2
          go_ret
          exact ⟨.inr ⟨hbad.out, rfl⟩, rfl⟩
        · have h2 : (57 : Int) < (c : Int) := by omega
          clear hdig
          go_wp2
          go_ret
          exact ⟨.inr ⟨hbad.out, rfl⟩, rfl⟩
    · have hall : Hid (Digs s.data.toList) := by
        show Digs _; have := hd.out; rwa [List.take_of_length_le (by rw [size_list]; omega)] at this
      have hcap : Hid (s.toList = s.data.toList) := ByteArray.toList_eq s
      clear hd
      by_cases h1 : s.toList = [48]
      · have hg : Hid (Good s.data.toList) := by
          show Good _; rw [hcap.out] at h1; exact ⟨hall.out, by rw [h1]; simp, .inl h1⟩
        go_wp2
        go_ret
        exact ⟨.inl ⟨hg.out, rfl⟩, rfl⟩
      · by_cases h2 : s.toList = []
        · have hg : Hid (¬ Good s.data.toList) := by
            show ¬ Good _; rw [hcap.out] at h2; exact fun g => g.2.1 h2
          go_wp2
          go_ret
          exact ⟨.inr ⟨hg.out, rfl⟩, rfl⟩
        · have h3 : 0 < s.size := by
            rcases Nat.eq_zero_or_pos s.size with z | z
            · exact absurd (List.eq_nil_of_length_eq_zero (by rw [hcap.out, size_list]; exact z)) h2
            · exact z
          have hh := head_byte s h3
          have hb1 : (s.toList == [48]) = false := beq_eq_false_iff_ne.2 h1
          have hb2 : s.toList.isEmpty = false := by simpa using h2
          by_cases h4 : s[0] = 48
          · have hg : Hid (¬ Good s.data.toList) := by
              show ¬ Good _
              intro g
              rcases g.2.2 with e | e
              · exact h1 (by rw [hcap.out]; exact e)
              · rw [hh, h4] at e; exact e rfl
            have h5 : s[0].toNat = 48 := by rw [h4]; rfl
            clear hh h4
            go_wp2
            go_ret
            exact ⟨.inr ⟨hg.out, rfl⟩, rfl⟩
          · have hg : Hid (Good s.data.toList) := by
              show Good _
              exact ⟨hall.out, by rw [← hcap.out]; exact h2, .inr (by rw [hh]; intro e; exact h4 (Option.some.inj e))⟩
            have h5 : s[0].toNat ≠ 48 := fun e => h4 (UInt8.toNat.inj e)
            obtain ⟨c, hc⟩ : ∃ c, s[0].toNat = c := ⟨_, rfl⟩
            rw [hc] at h5
            have h6 : ((c : Int) != 48) = true := by rw [bne_iff_ne]; omega
            clear hh h4 h5
            go_wp2
            go_ret
            exact ⟨.inl ⟨hg.out, rfl⟩, rfl⟩
end Go.Proofs.YtobiepkhommeaaaGreatDoor
/- Contract of natural.Parse. -/
namespace Go.Proofs.YtobiepkhommeaaaGreatDoor
open Go.RowKit

theorem FromUint_num (v : Nat) (i : Int) (hi : i = (v : Int)) (h : v < 18446744073709551616) (w : World) : Calls Tryz.prog 94 #[.int .u64 i] w (Makes v w) := by
  subst hi
  have := FromUint_any (v : Int) (by omega) (by omega) w
  rwa [Int.toNat_natCast] at this
theorem list_take (t : ByteArray) (g : Nat) : (t.extract 0 g).data.toList = t.data.toList.take g := by simp
theorem list_drop (t : ByteArray) (g : Nat) : (t.extract g t.size).data.toList = t.data.toList.drop g := by
  simp only [ByteArray.data_extract, Array.toList_extract]
  rw [List.extract_eq_take_drop, List.take_of_length_le]
  rw [List.length_drop, size_list]; exact Nat.le_refl _
theorem sm_dv {d : List UInt8} (h : Digs d) (hl : d.length ≤ 4096) : Sm (dv 0 d) 512 := by
  refine ⟨?_, by omega⟩
  have h1 := dv_lt h
  have h2 : 10 ^ d.length ≤ 16 ^ d.length := Nat.pow_le_pow_left (by omega) _
  rw [show (16 : Nat) = 2 ^ 4 by rfl, ← Nat.pow_mul] at h2
  obtain ⟨E, hE⟩ : ∃ E : Nat, E = 32 * 512 := ⟨_, rfl⟩
  have h3 : 2 ^ (4 * d.length) ≤ 2 ^ E := Nat.pow_le_pow_right (by omega) (by omega)
  rw [pw_two, ← hE]; omega
theorem groupValue_num (t : ByteArray) (v : Nat) (w : World) (hs : t.size ≤ 9) (hd : Digs t.data.toList) (hv : dv 0 t.data.toList = v) : Calls Tryz.prog 154 #[.string t] w fun e w' => e = .returned (.int .u64 (v : Int)) ∧ w = w' := by
  subst hv; exact groupValue_any t w hs hd
/-- one group more -/
theorem dv_next {d t : List UInt8} {g : Nat} (hg : g = 9 ∨ d = []) (hl : (t.take g).length = g) : dv 0 d * 1000000000 + dv 0 (t.take g) = dv 0 (d ++ t.take g) := by
  rw [dv_append, dv_shift (dv 0 d), hl]
  rcases hg with rfl | rfl
  · rfl
  · rw [dv_nil]; omega

set_option maxHeartbeats 2000000 in
set_option maxRecDepth 100000 in
theorem Parse_any (s : ByteArray) (w : World) (hs : s.size ≤ 9223372036854775807) :
    Calls Tryz.prog 120 #[.string s] w (PowPost (txtWhy s.data.toList) (txtRes s.data.toList) w) := by
  by_cases hgood : Good s.data.toList
  · rcases Nat.lt_or_ge 4096 s.size with hl | hl
    · obtain ⟨e1, e2⟩ := txt_long hgood (by rw [size_list]; exact hl)
      rw [e1, e2]
      have HG := Lib.hid hgood
      clear hgood e1 e2
      go_enter Tryz.func120, Tryz.ntmps120
      go_wp2_with fail
      refine (decimal_any s w hs).mono ?_; rintro e w' ⟨⟨_, rfl⟩ | ⟨hb, _⟩, rfl⟩
      · go_wp2_with fail
        go_ret2
        exact PowPost.err
      · exact absurd HG.out hb
    · obtain ⟨e1, e2⟩ := txt_fine hgood (by rw [size_list]; exact hl)
      rw [e1, e2]
      have HG := Lib.hid hgood
      clear hgood e1 e2
      go_enter Tryz.func120, Tryz.ntmps120
      go_wp2_with fail
      refine (decimal_any s w hs).mono ?_; rintro e w' ⟨⟨_, rfl⟩ | ⟨hb, _⟩, rfl⟩
      · go_wp2_with fail
        go_loopg [0, 4] s.size (fun g s0 s4 wr => ∃ (t : ByteArray) (d : List UInt8) (ao : Option Addr) (c : Nat), s0 = .string t ∧ s4 = .slice ao (dig (dv 0 d)).length c ∧ Fr w.heap.size wr ao c (dig (dv 0 d)) ∧ d ++ t.data.toList = s.data.toList ∧ t.size ≤ 4096 ∧ (t.size % 9 = 0 ∨ d = []) ∧ g = t.size ∧ Below w.heap.size w wr)
        case atStart => exact ⟨s, [], none, 0, rfl, rfl, Fr.nil _ _, rfl, hl, .inr rfl, rfl, Below.refl _ _⟩
        case round =>
          obtain ⟨t, d, ao, c, rfl, rfl, f0, hdt, htl, hmod, hgt, hbl⟩ := hrel
          have HDT := Lib.hid hdt
          have GT := Lib.hid hgt
          clear hdt hgt
          rcases Nat.eq_zero_or_pos t.size with h0 | h0
          · have hdl : Hid (d = s.data.toList) := by
              show _ = _; have := HDT.out; rwa [List.eq_nil_of_length_eq_zero (show t.data.toList.length = 0 by rw [size_list]; exact h0), List.append_nil] at this
            clear hmod
            go_wp2_with fail
            go_ret2
            (try rw [hdl.out] at f0)
            (try rw [hdl.out])
            exact ⟨ao, c, rfl, f0, hbl⟩
          · obtain ⟨g, hg⟩ : ∃ g, g = (t.size - 1) % 9 + 1 := ⟨_, rfl⟩
            have hgi : ((t.size : Int) - 1) % 9 + 1 = (g : Int) := by omega
            have hg9 : g ≤ 9 := by omega
            have hgt2 : g ≤ t.size := by omega
            have hg91 : g = 9 ∨ d = [] := by
              rcases hmod with h | h
              · left; omega
              · exact .inr h
            have hmod2 : Hid ((t.size - g) % 9 = 0) := by show _ = _; omega
            have hgi2 : ((t.size - 1 : Nat) : Int) % 9 + 1 = (g : Int) := by omega
            have hsub : (t.extract 0 g).size ≤ 9 := by simp; omega
            have hall : Digs t.data.toList := by
              have := HG.out.1; rw [← HDT.out] at this; exact fun x hx => this x (by simp [hx])
            have hd0 : Digs d := by
              have := HG.out.1; rw [← HDT.out] at this; exact fun x hx => this x (by simp [hx])
            have hdig : Digs (t.extract 0 g).data.toList := by rw [list_take]; exact hall.take g
            obtain ⟨v, hv⟩ : ∃ v, dv 0 (t.extract 0 g).data.toList = v := ⟨_, rfl⟩
            have hgl : (t.data.toList.take g).length = g := by rw [List.length_take, size_list]; omega
            have hvb : v < 1000000000 := by
              have h1 := dv_lt hdig
              rw [hv, list_take, hgl] at h1
              have h2 : 10 ^ g ≤ 10 ^ 9 := Nat.pow_le_pow_right (by omega) hg9
              have e : (10 : Nat) ^ 9 = 1000000000 := by decide
              omega
            have hdlen : d.length + t.data.toList.length ≤ 4096 := by
              have := congrArg List.length HDT.out; rw [List.length_append, size_list s] at this; omega
            obtain ⟨D, hD⟩ : ∃ D, D = dv 0 d := ⟨_, rfl⟩
            have s_D : Sm D 512 := by rw [hD]; exact sm_dv hd0 (by omega)
            have hnext : Hid (D * 1000000000 + v = dv 0 (d ++ t.data.toList.take g)) := by
              show _ = _; rw [hD, ← hv, list_take]; exact dv_next hg91 hgl
            rw [← hD] at f0 ⊢
            have n0 := Num.of_fr f0 s_D
            have s_9 : Sm 1000000000 1 := ⟨by rw [pw_succ, pw_zero]; omega, by omega⟩
            have s_v : Sm v 1 := ⟨by rw [pw_succ, pw_zero]; omega, by omega⟩
            have HSUB := Lib.hid hsub
            have HDIG := Lib.hid hdig
            have HV := Lib.hid hv
            have HALL := Lib.hid hdlen
            have hgi3 : (g : Int) ≤ (t.size : Int) := by omega
            clear hg hmod hall hd0 hD hgl hdlen hsub hdig hv hg91
            go_wp2_with fail
            go_region_with (first
              | (go_at_call_of 94 (Value.int IntKind.u64 1000000000); refine (FromUint_num 1000000000 _ rfl (by omega) _).mono ?_; rintro e W1 ⟨a1, c1, rfl, f1, b1⟩)
              | (go_at_call 45; refine (Mul_num (n0.below ((Below.refl _ _).drew.trans b1)) (Num.of_fr f1 s_9)).mono ?_; rintro e W2 ⟨a2, c2, rfl, f2, b2⟩)
              | (go_at_call 154; refine (groupValue_num _ v _ HSUB.out HDIG.out HV.out).mono ?_; rintro e W3 ⟨rfl, rfl⟩)
              | (go_at_call_of 94 (Value.int IntKind.u64 (v : Int)); refine (FromUint_num v _ rfl (by omega) _).mono ?_; rintro e W4 ⟨a4, c4, rfl, f4, b4⟩)
              | (go_at_call 99; refine (Add_num ((Num.of_fr f2 (s_D.mul s_9 (by omega))).below b4) (Num.of_fr f4 s_v)).mono ?_; rintro e W5 ⟨a5, c5, rfl, f5, b5⟩))
            have B5 := (Below.refl wr.heap.size wr).drew.trans (b1.trans ((b2.mono b1.size).trans ((b4.mono (Nat.le_trans b1.size b2.size)).trans (b5.mono (Nat.le_trans (Nat.le_trans b1.size b2.size) b4.size)))))
            rw [hnext.out] at f5
            go_wp2_with fail
            go_roundg (t.size - g)
            case measure => rw [GT.out]; omega
            case rel => exact ⟨t.extract g t.size, d ++ t.data.toList.take g, a5, c5, by first | rfl | simp, by rw [hnext.out], f5.mono (Nat.le_trans hbl.size (Nat.le_trans (Nat.le_trans b1.size b2.size) b4.size)), by rw [list_drop, List.append_assoc, List.take_append_drop]; exact HDT.out, by simp; omega, .inl (by have := hmod2.out; simpa using this), by simp, hbl.trans (B5.mono hbl.size)⟩
      · exact absurd HG.out hb
  · obtain ⟨e1, e2⟩ := txt_bad hgood
    rw [e1, e2]
    have HG := Lib.hid hgood
    clear hgood e1 e2
    go_enter Tryz.func120, Tryz.ntmps120
    go_wp2_with fail
    refine (decimal_any s w hs).mono ?_; rintro e w' ⟨⟨hb, _⟩ | ⟨_, rfl⟩, rfl⟩
    · exact absurd hb HG.out
    · go_wp2_with fail
      go_ret2
      exact PowPost.err
end Go.Proofs.YtobiepkhommeaaaGreatDoor
/- Contract of the reference's Digits. -/
namespace Go.Proofs.YtobiepkhommeaaaGreatDoor
open Go.RowKit

theorem lit_new (w : World) (x : Nat) (hx : x < 4294967296) : Num (w.alloc (.cells #[.int .u32 (x : Int)] 35)) (some ⟨w.heap.size, 0, none⟩) 1 1 x :=
  ⟨[x], rfl, rd_new w _ [x] rfl (lims_cons hx lims_nil) 1 rfl (by omega), by simp [val], by simp⟩
theorem dv_take_succ {s : ByteArray} {k v : Nat} (h : k < s.size) (hv : s[k].toNat = v + 48) : dv 0 (s.data.toList.take (k + 1)) = dv 0 (s.data.toList.take k) * 10 + v := by
  rw [take_snoc s k h, dv_snoc, hv, Nat.add_sub_cancel]

set_option maxHeartbeats 4000000 in
set_option maxRecDepth 100000 in
theorem Digits_any (s : ByteArray) (w : World) (hs : s.size ≤ 4096) (hd : Digs s.data.toList) : Calls Tryz.prog 124 #[.string s] w (Makes (dv 0 s.data.toList) w) := by
  have HD := Lib.hid hd
  clear hd
  go_enter Tryz.func124, Tryz.ntmps124
  go_wp2_with fail
  go_loopw [3, 7] (fun s3 s7 wr => ∃ (k : Nat) (ao : Option Addr) (c : Nat), k ≤ s.size ∧ s7 = .int .i64 k ∧ s3 = .slice ao (dig (dv 0 (s.data.toList.take k))).length c ∧ Fr w.heap.size wr ao c (dig (dv 0 (s.data.toList.take k))) ∧ Below w.heap.size w wr) (fun _ s7 _ => s.size - (intOf s7).toNat)
  case atStart => exact ⟨0, none, 0, by omega, rfl, rfl, Fr.nil _ _, Below.refl _ _⟩
  case round =>
    obtain ⟨k, ao, c, hk, rfl, rfl, f0, hbl⟩ := hrel
    by_cases hlt : k < s.size
    · have hc2 := HD.out.get k (by rw [size_list]; exact hlt)
      rw [byte_get s k hlt] at hc2
      obtain ⟨v, hv⟩ : ∃ v, s[k].toNat = v + 48 := ⟨s[k].toNat - 48, by omega⟩
      have hvb : v ≤ 9 := by omega
      have hnext := Lib.hid (dv_take_succ hlt hv)
      obtain ⟨D, hD⟩ : ∃ D, D = dv 0 (s.data.toList.take k) := ⟨_, rfl⟩
      have s_D : Sm D 512 := by rw [hD]; exact sm_dv (HD.out.take k) (by rw [List.length_take, size_list]; omega)
      have s_10 : Sm 10 1 := ⟨by rw [pw_succ, pw_zero]; omega, by omega⟩
      have s_v : Sm v 1 := ⟨by rw [pw_succ, pw_zero]; omega, by omega⟩
      have s_p : Sm (D * 10) 513 := s_D.mul s_10 (by omega)
      rw [← hD] at f0 hnext ⊢
      have n0 := Num.of_fr f0 s_D
      clear hD hc2
      have hv32 : v < 4294967296 := by omega
      have bA := below_new wr (.cells #[.int .u32 10] 35)
      have bB := bA.trans ((below_new (wr.alloc (.cells #[.int .u32 10] 35)) (.cells #[.int .u32 (v : Int)] 35)).mono bA.size)
      have bC0 := below_new wr (.cells #[.int .u32 (v : Int)] 35)
      have bC := bC0.trans ((below_new (wr.alloc (.cells #[.int .u32 (v : Int)] 35)) (.cells #[.int .u32 10] 35)).mono bC0.size)
      have tA : Num (wr.alloc (.cells #[.int .u32 10] 35)) (some ⟨wr.heap.size, 0, none⟩) 1 1 10 := lit_new wr 10 (by omega)
      have tB := tA.below (below_new _ (.cells #[.int .u32 (v : Int)] 35))
      have tC : Num ((wr.alloc (.cells #[.int .u32 (v : Int)] 35)).alloc (.cells #[.int .u32 10] 35)) (some ⟨wr.heap.size + 1, 0, none⟩) 1 1 10 := by have := lit_new (wr.alloc (.cells #[.int .u32 (v : Int)] 35)) 10 (by omega); rwa [World.size_alloc] at this
      have vB : Num ((wr.alloc (.cells #[.int .u32 10] 35)).alloc (.cells #[.int .u32 (v : Int)] 35)) (some ⟨wr.heap.size + 1, 0, none⟩) 1 1 v := by have := lit_new (wr.alloc (.cells #[.int .u32 10] 35)) v hv32; rwa [World.size_alloc] at this
      have vC := (lit_new wr v hv32).below (below_new _ (.cells #[.int .u32 10] 35))
      have nA := n0.below bA
      have nB := n0.below bB
      have nC := n0.below bC
      have LA := Lib.hid (And.intro nA tA)
      have LB := Lib.hid (And.intro nB (And.intro tB vB))
      have LC := Lib.hid (And.intro nC (And.intro tC vC))
      have BB := Lib.hid (And.intro bA (And.intro bB bC))
      have hw8 : IntKind.u8.wrap (v : Int) = (v : Int) := by rw [IntKind.wrap_u8']; omega
      have hw32 : IntKind.u32.wrap (v : Int) = (v : Int) := by rw [IntKind.wrap_u32']; omega
      clear nA tA nB tB vB nC tC vC bA bB bC bC0 n0
      go_wp2_with fail
      go_region_with (first
        | (go_at_call 55; refine (rMul_num (by first | exact LA.out.1 | exact LB.out.1 | exact LC.out.1) (by first | exact LA.out.2 | exact LB.out.2.1 | exact LC.out.2.1)).mono ?_; rintro e W2 ⟨a2, c2, rfl, f2, b2⟩)
        | (go_at_call 58; refine (rAdd_num (by first | exact (Num.of_fr f2 s_p) | exact (Num.of_fr f2 s_p).below (below_new _ _)) (by first | exact lit_new W2 v hv32 | exact LB.out.2.2.below ((Below.refl _ _).drew.trans b2) | exact LC.out.2.2.below ((Below.refl _ _).drew.trans b2))).mono ?_; rintro e W5 ⟨a5, c5, rfl, f5, b5⟩))
      all_goals
        have B2 : Below wr.heap.size wr W2 := by
          first
            | exact BB.out.1.trans (((Below.refl _ _).drew.trans b2).mono BB.out.1.size)
            | exact BB.out.2.1.trans (((Below.refl _ _).drew.trans b2).mono BB.out.2.1.size)
            | exact BB.out.2.2.trans (((Below.refl _ _).drew.trans b2).mono BB.out.2.2.size)
        have B5 : Below wr.heap.size wr W5 := by
          first
            | exact B2.trans (b5.mono B2.size)
            | exact B2.trans (((below_new W2 _).trans (b5.mono (below_new W2 _).size)).mono B2.size)
        have F5 : Fr w.heap.size W5 a5 c5 (dig (dv 0 (s.data.toList.take (k + 1)))) := by
          rw [hnext.out]
          first
            | exact f5.mono (Nat.le_trans hbl.size B2.size)
            | exact f5.mono (Nat.le_trans (Nat.le_trans hbl.size B2.size) (below_new W2 _).size)
        clear hw8 hw32 hv
        go_wp2_with fail
        go_roundw
        case rel => exact ⟨k + 1, a5, c5, by omega, by go_num, by rw [hnext.out], F5, hbl.trans (B5.mono hbl.size)⟩
        case measure => simp [intOf]; omega
    · have e : Hid (s.data.toList.take k = s.data.toList) := by show _ = _; rw [List.take_of_length_le (by rw [size_list]; omega)]
      rw [e.out] at f0 ⊢
      go_wp2_with fail
      go_ret
      exact ⟨_, _, rfl, f0, hbl⟩
end Go.Proofs.YtobiepkhommeaaaGreatDoor
