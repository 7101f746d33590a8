import Derived.Test.YtkedgkfdmdlhoaaDoorPrd1
import Derived.Laws.IdiomStrings
import Derived.Laws.OwnMore
import Derived.Lib.ConvBytes
import Derived.OwnWalk
/- Layer 9: article numbers of the tape's catalog: Fold, ID. -/
namespace Go.Proofs.YtkedgkfdmdlhoaaDoor.P9
open Go.RowKit Go.Sort C6

set_option maxHeartbeats 4000000 in
/-- Fold of a number that is not negative -/
theorem Fold_d (v k : Nat) (hv : v ≤ 9223372036854775807) (hk : 1 ≤ k) (hk2 : k ≤ 1000000) (w : World) (n : Int) (hn : n = k) :
    Calls Tryd.prog 19 #[.int .i64 (v : Int), .int .i64 n] w fun e w' => e = .returned (.int .i64 ((v % k : Nat) : Int)) ∧ Below w.heap.size w w' := by
  subst hn
  have hw : IntKind.u64.wrap (v : Int) = (v : Int) := by rw [IntKind.wrap_u64]; omega
  have hub : (v : Int) ≤ 18446744073709551615 := by omega
  have hr : v % k < k := Nat.mod_lt _ (by omega)
  have he : (v : Int) % (k : Int) = ((v % k : Nat) : Int) := (Int.natCast_emod v k).symm
  have E := Lib.hid he
  have hrb0 : 0 ≤ (v : Int) % (k : Int) := by omega
  have hrb : (v : Int) % (k : Int) ≤ 1000000 := by omega
  have hmx : max (k : Int) 1 = (k : Int) := by omega
  have HB := Lib.hid (Below.refl w.heap.size w)
  clear he hr
  go_enter Tryd.func19, Tryd.ntmps19
  go_wp2_with fail
  go_ret
  exact ⟨ret_i64 E.out, HB.out⟩

theorem infoB : (Tryd.prog.info? 5).map (fun i => (i.zero, i.size, i.bytes)) = some (some (.int .u8 0), 1, 1) := by kernel_rfl
theorem cell_in {w : World} {b j : Nat} {cs : Array Value} {t : TypeId} {fr : Nat × Nat} {v : Value} (h : w.heap[b]? = some (.cells cs t fr)) (hj : cs[j]? = some v) : w.cell? ⟨b, j, none⟩ = some v := by
  simp [World.cell?, h, hj]
/-- a block of bytes of the call's own, its last i laid -/
def Byq (w : World) (g i : Nat) (l : List UInt8) : Prop := ∃ cur : Array Value, w.heap[g]? = some (.cells cur 5 (0, 0)) ∧ cur.size = l.length ∧ (∀ p (hp : p < l.length), l.length - i ≤ p → cur[p]? = some (.int .u8 (l[p].toNat : Int))) ∧ ∀ p, p < l.length - i → cur[p]? = some (.int .u8 0)
theorem Byq.cell {w : World} {g i : Nat} {l : List UInt8} (h : Byq w g i l) (hi : i < l.length) : w.cell? ⟨g, l.length - 1 - i, none⟩ = some (.int .u8 0) := by
  obtain ⟨cur, h1, h2, h3, h4⟩ := h
  exact cell_in h1 (h4 _ (by omega))
theorem Byq.frozen {w : World} {g i : Nat} {l : List UInt8} (h : Byq w g i l) (j : Nat) : w.frozen? ⟨g, j, none⟩ = false := by
  obtain ⟨cur, h1, h2, h3, h4⟩ := h
  simp [World.frozen?, h1]
theorem Byq.set {w : World} {g i : Nat} {l : List UInt8} (h : Byq w g i l) (hi : i < l.length) : Byq (w.setCell ⟨g, l.length - 1 - i, none⟩ (.int .u8 (l[l.length - 1 - i].toNat : Int))) g (i + 1) l := by
  obtain ⟨cur, h1, h2, h3, h4⟩ := h
  refine ⟨cur.setIfInBounds (l.length - 1 - i) (.int .u8 (l[l.length - 1 - i].toNat : Int)), ?_, by simpa using h2, fun p hp hj => ?_, fun p hp => ?_⟩
  · simp [World.setCell, Array.getElem?_modify, h1]
  · rw [Array.getElem?_setIfInBounds]
    by_cases e : l.length - 1 - i = p
    · subst e; rw [if_pos rfl, if_pos (by omega)]
    · rw [if_neg e]; exact h3 p hp (by omega)
  · rw [Array.getElem?_setIfInBounds, if_neg (by omega)]; exact h4 p (by omega)
theorem Byq.lt {w : World} {g i : Nat} {l : List UInt8} (h : Byq w g i l) : g < w.heap.size := by
  obtain ⟨cur, h1, _⟩ := h
  exact (Array.getElem?_eq_some_iff.1 h1).1
theorem Byq.below {w w' : World} {g i : Nat} {l : List UInt8} (h : Byq w g i l) (b : Below w.heap.size w w') : Byq w' g i l := by
  have hl := h.lt
  obtain ⟨cur, h1, h2⟩ := h
  exact ⟨cur, (b.block g hl).trans h1, h2⟩
theorem Byq.text {w : World} {g : Nat} {l : List UInt8} (h : Byq w g l.length l) : (convert 60 9 (.slice (some ⟨g, 0, none⟩) l.length l.length)).run Tryd.prog w = .ok (.string ⟨l.toArray⟩) w :=
  run_convert_bytes_back (P := Tryd.prog) w 60 9 5 ⟨g, 0, none⟩ l.length l Tryd.underlying60 Tryd.underlying5 Tryd.underlying9 (fun j hj => by
    obtain ⟨cur, h1, h2, h3, h4⟩ := h
    rw [Addr.add_lit, Nat.zero_add]
    exact cell_in h1 (h3 j hj (by omega)))
theorem Byq.made {w w' : World} {l : List UInt8} (h : w'.ownsRow w.heap.size 5 1 (.slice (some ⟨w.heap.size, 0, none⟩) l.length l.length) l.length (madeCells (Value.int .u8 0).cells (l.length * 1)).toList) : Byq w' w.heap.size 0 l := by
  have e : (madeCells (Value.int .u8 0).cells (l.length * 1)).toList = List.replicate l.length (Value.int .u8 0) := by
    rw [show (Value.int .u8 0).cells = #[Value.int .u8 0] from rfl, toList_madeCells_one, Nat.mul_one]
  rw [e] at h
  obtain ⟨h1, h2⟩ := h
  rcases h2 with ⟨h2, _⟩ | ⟨g', cap', cur, hv, hb, hg, hn, hc, hs, ht⟩
  · cases h2
  · cases hv
    have hs' : cur.size = l.length := by simpa using hs
    have e2 : cur.toList = List.replicate l.length (Value.int .u8 0) := by
      rw [← ht, List.take_of_length_le]; simp [hs']
    refine ⟨cur, hg, hs', fun p hp hj => by omega, fun p hp => ?_⟩
    rw [← Array.getElem?_toList, e2, List.getElem?_replicate, if_pos (by omega)]
theorem one_byte (w : World) (x : UInt8) : (convert 60 9 (.slice (some ⟨w.heap.size, 0, none⟩) 1 1)).run Tryd.prog (w.alloc (.cells #[.int .u8 (x.toNat : Int)] 5)) = .ok (.string ⟨#[x]⟩) (w.alloc (.cells #[.int .u8 (x.toNat : Int)] 5)) :=
  run_convert_bytes_back (P := Tryd.prog) _ 60 9 5 ⟨w.heap.size, 0, none⟩ 1 [x] Tryd.underlying60 Tryd.underlying5 Tryd.underlying9 (fun j hj => by
    have : j = 0 := by simpa using hj
    subst this
    exact C6.one_cell w _ _ 0 _ rfl)

/-- the seven digits of an article number, and the number -/
def sev (n : Nat) : List UInt8 := (List.range 7).map fun j => UInt8.ofNat (48 + n / 10 ^ (6 - j) % 10)
theorem sev_length (n : Nat) : (sev n).length = 7 := by simp [sev]
theorem sev_get (n j : Nat) (hj : j < (sev n).length) : (sev n)[j].toNat = 48 + n / 10 ^ (6 - j) % 10 := by
  simp only [sev, List.getElem_map, List.getElem_range, UInt8.toNat_ofNat']
  omega
theorem sev_all (n : Nat) : (sev n).all dgt = true := by
  rw [List.all_eq_true]
  intro x hx
  obtain ⟨j, hj, rfl⟩ := List.getElem_of_mem hx
  rw [dgt_iff, sev_get]
  omega
def idL (k : Nat) : List UInt8 := sev (1000000 + k) ++ [UInt8.ofNat (48 + ck (sev (1000000 + k)))]
def idB (k : Nat) : ByteArray := ⟨(idL k).toArray⟩
theorem idL_length (k : Nat) : (idL k).length = 8 := by simp [idL, sev_length]
theorem idL_valid (k : Nat) : vid (idL k) = true := by
  unfold idL
  rw [vid_snoc, ckOk_mk (.inl (sev_length _)) (sev_all _), Bool.true_and]
  have := ck_lt (sev (1000000 + k))
  simp only [UInt8.toNat_ofNat']
  exact decide_eq_true (by omega)

set_option maxHeartbeats 8000000 in
set_option maxRecDepth 100000 in
theorem ID_v (k : Nat) (hk : k < 1000000) (z : Int) (hz : z = (k : Int)) (w : World) : Calls Tryd.prog 13 #[.int .i64 z] w fun e w' => e = .returned (.string (idB k)) ∧ Below w.heap.size w w' := by
  subst hz
  obtain ⟨i0, hi, hz0, hz1, hz2⟩ := info_parts infoB
  have FD : Hid (∀ w, Calls Tryd.prog 19 #[.int .i64 (k : Int), .int .i64 1000000] w fun e w' => e = .returned (.int .i64 (k : Int)) ∧ Below w.heap.size w w') := fun w => by
    have := Fold_d k 1000000 (by omega) (by omega) (by omega) w 1000000 rfl
    rwa [Nat.mod_eq_of_lt hk] at this
  obtain ⟨l, hl⟩ : ∃ l, l = sev (1000000 + k) := ⟨_, rfl⟩
  obtain ⟨d, hd⟩ : ∃ d, d = ck l := ⟨_, rfl⟩
  have hl7 : l.length = 7 := by rw [hl]; exact sev_length _
  have hd9 : d ≤ 9 := by rw [hd]; exact ck_lt _
  have CK : Hid (∀ w, Calls Tryd.prog 31 #[.string ⟨l.toArray⟩] w fun e w' => e = .returned (.tuple #[.int .i64 (d : Int), .bool true]) ∧ Below w.heap.size w w') := fun w => by
    have := rCheckDigit_v ⟨l.toArray⟩ w
    rw [show (⟨l.toArray⟩ : ByteArray).data.toList = l by simp, ← hd, show ckOk l = true by rw [hl]; exact ckOk_mk (.inl (sev_length _)) (sev_all _)] at this
    exact this
  have HE : Hid ((⟨l.toArray⟩ : ByteArray) ++ ⟨#[UInt8.ofNat (48 + d)]⟩ = idB k) := by
    apply C6.ba_ext
    simp [idB, idL, hd, hl]
  have hdg : Hid (∀ i, i < 7 → ∀ q : Nat, q = (1000000 + k) / 10 ^ i → ∃ h : l.length - 1 - i < l.length, (l[l.length - 1 - i]'h).toNat = 48 + q % 10) := fun i hi q hq => by
    have h : l.length - 1 - i < l.length := by omega
    refine ⟨h, ?_⟩
    subst hl
    rw [sev_get, sev_length, hq]
    rw [show 6 - (7 - 1 - i) = i by omega]
  have HL7 := Lib.hid hl7
  have hx9 : Hid (((UInt8.ofNat (48 + d)).toNat : Nat) = 48 + d) := by unfold Hid; rw [UInt8.toNat_ofNat']; omega
  obtain ⟨x, hx⟩ : ∃ x, x = UInt8.ofNat (48 + d) := ⟨_, rfl⟩
  unfold Hid at hx9 HE
  rw [← hx] at hx9 HE
  have HX9 := Lib.hid hx9
  have HE2 := Lib.hid HE
  have hk1 : (1000000 : Int) + (k : Int) = ((1000000 + k : Nat) : Int) := by omega
  obtain ⟨N, hN⟩ : ∃ N, N = 1000000 + k := ⟨_, rfl⟩
  rw [← hN] at hk1
  have hNb : N ≤ 2000000 := by omega
  have HN := Lib.hid hN
  clear hl hd hl7 hx hx9 HE hN
  go_enter Tryd.func13, Tryd.ntmps13
  go_wp2_with fail
  refine (FD.out _).mono ?_; rintro e w1 ⟨rfl, b1⟩
  have B1 := Lib.hid b1
  clear b1
  go_wp2_with (at_make; refine wpList_make_full _ rfl _ _ 60 rfl w1.heap.size 5 i0 (.int .u8 0) 1 Tryd.underlying60 hi hz0 hz1 _ _ _ _ 7 rfl rfl (by omega) (by omega) (by rw [hz2]; omega) (by unfold maxLen; omega) (Nat.le_refl _) ?_; intro w5 hown5 hgr5)
  have hby : Byq w5 w1.heap.size 0 l := by
    rw [← HL7.out] at hown5
    exact Byq.made hown5
  have HBY := Lib.hid hby
  have hb5 : Below w1.heap.size w1 w5 := (Below.refl _ _).grown hgr5 (Nat.le_refl _) (fun k hk => by cases hk)
  have B5 := Lib.hid (keep B1.out hb5)
  obtain ⟨g, hg⟩ : ∃ g, g = w1.heap.size := ⟨_, rfl⟩
  have hgw : w.heap.size ≤ g := by rw [hg]; exact B1.out.size
  unfold Hid at HBY
  rw [← hg] at HBY ⊢
  have HBY2 := Lib.hid HBY
  clear hown5 hgr5 hb5 hby HBY hi hz0 hz1 hz2 hg
  go_wp2_with fail
  go_loopw [3, 5] (fun s3 s5 (wx : World) => ∃ (i q : Nat) (z : Int), i ≤ 7 ∧ s3 = .int .i64 (q : Int) ∧ s5 = .int .i64 z ∧ z = 6 - (i : Int) ∧ q ≤ 2000000 ∧ Hid (q = (1000000 + k) / 10 ^ i) ∧ Hid (Byq wx g i l) ∧ Hid (Below w.heap.size w wx)) (fun _ s5 _ => (intOf s5 + 1).toNat)
  case atStart => exact ⟨0, N, 6, by omega, rfl, rfl, rfl, hNb, by unfold Hid; rw [HN.out]; simp, HBY2, B5⟩
  case round =>
    obtain ⟨i, q, z, hi7, rfl, rfl, hz, hqb, hq, hby, hbl⟩ := hrel
    by_cases hlt : i < 7
    · obtain ⟨j, hj⟩ : ∃ j : Nat, z = (j : Int) := ⟨6 - i, by omega⟩
      subst hj
      have hj7 : j < 7 := by omega
      have hj6 : (j : Int) < 7 := by omega
      obtain ⟨hlen, hbyt⟩ := hdg.out i hlt q hq.out
      have hcell := hby.out.cell (by rw [HL7.out]; exact hlt)
      have hfz := hby.out.frozen (l.length - 1 - i)
      have hset := hby.out.set (by rw [HL7.out]; exact hlt)
      have hji : l.length - 1 - i = j := by rw [HL7.out]; omega
      rw [hbyt] at hset
      rw [hji] at hcell hfz hset
      obtain ⟨r, hr⟩ : ∃ r : Nat, Int.tmod (q : Int) 10 = (r : Int) := ⟨q % 10, by rw [Int.tmod_eq_emod_of_nonneg (by omega)]; omega⟩
      have hrq : r = q % 10 := by rw [Int.tmod_eq_emod_of_nonneg (by omega)] at hr; omega
      obtain ⟨u, hu⟩ : ∃ u : Nat, (48 : Int) + (r : Int) = (u : Int) := ⟨48 + r, by omega⟩
      have hub : u ≤ 57 := by omega
      have huw : IntKind.u8.wrap (u : Int) = (u : Int) := by rw [IntKind.wrap_u8]; omega
      have hu2 : ((48 + q % 10 : Nat) : Int) = (u : Int) := by omega
      rw [hu2] at hset
      obtain ⟨q2, hq2⟩ : ∃ q2 : Nat, Int.tdiv (q : Int) 10 = (q2 : Int) := ⟨q / 10, by rw [Int.tdiv_eq_ediv_of_nonneg (by omega)]; omega⟩
      have hqq : q2 = q / 10 := by rw [Int.tdiv_eq_ediv_of_nonneg (by omega)] at hq2; omega
      have HQ2 : Hid (q2 = (1000000 + k) / 10 ^ (i + 1)) := by
        unfold Hid
        rw [hqq, hq.out, Nat.div_div_eq_div_mul, Nat.pow_succ]
      have hq2b : q2 ≤ 2000000 := by omega
      have hq2w : IntKind.i64.wrap (q2 : Int) = (q2 : Int) := IntWalk.i64_in _ (by omega)
      have HS := Lib.hid hset
      have HB6 : Hid (Below w.heap.size w (wr.setCell ⟨g, j, none⟩ (.int .u8 (u : Int)))) := hbl.out.setCell hgw _
      have HZ := Lib.hid hz
      clear hset hlen hbyt hji hrq hqq hu2 hq hby hz
      go_wp2_with fail
      go_roundw
      case rel => exact ⟨i + 1, q2, _, by omega, by go_num, rfl, by have := HZ.out; omega, hq2b, HQ2, HS, HB6⟩
      case measure => first | (simp [intOf]; done) | (simp [intOf]; omega)
    · obtain rfl : i = 7 := by omega
      obtain rfl : z = -1 := by omega
      have hby7 : Byq wr g l.length l := by rw [HL7.out]; exact hby.out
      have htext := hby7.text
      rw [HL7.out] at htext
      have HBY7 := Lib.hid hby7
      clear hby hq hz
      go_wp2_with fail
      refine (CK.out _).mono ?_; rintro e w7 ⟨rfl, b7⟩
      have htext2 := (HBY7.out.below b7).text
      rw [HL7.out] at htext2
      have hone := one_byte w7 x
      rw [HX9.out] at hone
      obtain ⟨u, hu⟩ : ∃ u : Nat, (48 : Int) + (d : Int) = (u : Int) := ⟨48 + d, by omega⟩
      have huw : IntKind.u8.wrap (u : Int) = (u : Int) := by rw [IntKind.wrap_u8]; omega
      rw [show ((48 + d : Nat) : Int) = (u : Int) by omega] at hone
      have B7 := Lib.hid (keep hbl.out b7)
      have hsz : (⟨l.toArray⟩ : ByteArray).size + (⟨#[x]⟩ : ByteArray).size ≤ 9223372036854775807 := by
        have : (⟨l.toArray⟩ : ByteArray).size = l.length := by simp [ByteArray.size]
        have h1 : (⟨#[x]⟩ : ByteArray).size = 1 := rfl
        rw [this, HL7.out, h1]
        decide
      have B8 : Hid (Below w.heap.size w (w7.alloc (.cells #[.int .u8 (u : Int)] 5))) := keep B7.out (below_new _ _)
      clear b7 htext
      go_wp2_with fail
      go_ret
      exact ⟨ret_str HE2.out, B8.out⟩
end Go.Proofs.YtkedgkfdmdlhoaaDoor.P9
