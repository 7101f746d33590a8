import Derived.Test.YtkodfmpaeemaiaaDoorCls3
import Derived.Test.YtkodfmpaeemaiaaDoorCls4
import Derived.Test.YtkodfmpaeemaiaaDoorCls5
/- The reference of package classification: Is, Level, Path, Parent; lists compared. -/
namespace Go.Proofs.YtkodfmpaeemaiaaDoor.C6
open Go.RowKit Go.Sort

theorem Is_v (s : ByteArray) (hs : s.size ≤ 1000) (w : World) : Calls Tryd.prog 23 #[.string s] w fun e w' => e = .returned (.bool (P s).isSome) ∧ Below w.heap.size w w' := by
  go_enter Tryd.func23, Tryd.ntmps23
  go_wp2_with fail
  refine (rParse_v s hs _).mono ?_; rintro e w1 h
  rcases h.cases with ⟨p, ao, cap, hP, _, _, rfl, hr, hf, hb⟩ | ⟨hP, rfl, hb⟩
  · have HE : Hid (true = (P s).isSome) := by unfold Hid; rw [hP]; rfl
    clear hP hr hf h
    go_wp2_with fail
    go_ret
    exact ⟨ret_bool HE.out, hb⟩
  · have HE : Hid (false = (P s).isSome) := by unfold Hid; rw [hP]; rfl
    clear hP h
    go_wp2_with fail
    go_ret
    exact ⟨ret_bool HE.out, hb⟩
theorem lev_some {s : ByteArray} {p : List Nat} (h : PO s = some p) : lev s = (p.length : Int) := by unfold lev; rw [h]
theorem lev_none {s : ByteArray} (h : PO s = none) : lev s = -1 := by unfold lev; rw [h]
set_option maxHeartbeats 2000000 in
theorem rLevel_v (s : ByteArray) (hs : s.size ≤ 1000) (w : World) : Calls Tryd.prog 49 #[.string s] w fun e w' => e = .returned (.int .i64 (lev s)) ∧ Below w.heap.size w w' := by
  go_enter Tryd.func49, Tryd.ntmps49
  go_wp2_with fail
  refine (rParse_v s hs _).mono ?_; rintro e w1 h
  rcases h.cases with ⟨p, ao, cap, hP, _, _, rfl, hr, hf, hb⟩ | ⟨hP, rfl, hb⟩
  · have HE : Hid ((p.length : Int) = lev s) := (lev_some (PO_of_P hP)).symm
    clear hP hr hf h
    go_wp2_with fail
    go_ret
    exact ⟨ret_i64 HE.out, hb⟩
  · by_cases he : s = emp
    · have HE : Hid ((0 : Int) = lev s) := by unfold Hid; rw [he]; exact (lev_some PO_emp).symm
      subst he
      clear hP h
      go_wp2_with fail
      go_ret
      exact ⟨ret_i64 HE.out, hb⟩
    · have HE : Hid ((-1 : Int) = lev s) := (lev_none (by rw [PO_P he, hP])).symm
      have ht := ne_emp he
      clear hP h he
      go_wp2_with fail
      go_ret
      exact ⟨ret_i64 HE.out, hb⟩

theorem pth_some {s : ByteArray} {p : List Nat} (h : P s = some p) : pth s = prefs p := by unfold pth; rw [h]
theorem pth_none {s : ByteArray} (h : P s = none) : pth s = [] := by unfold pth; rw [h]
theorem prefs_take {p : List Nat} {i : Nat} (hi : i < p.length) : (prefs p).take (i + 1) = (prefs p).take i ++ [txt (p.take (i + 1))] := by
  have hl : i < (prefs p).length := by rw [prefs_length]; exact hi
  rw [List.take_add_one, List.getElem?_eq_getElem hl]
  have := prefs_get hi
  simp [List.getD, hl] at this
  rw [this]
  rfl
set_option maxHeartbeats 8000000 in
theorem rPath_v (s : ByteArray) (hs : s.size ≤ 1000) (w : World) : Calls Tryd.prog 43 #[.string s] w fun e w' => ∃ v, e = .returned v ∧ w'.ownsRow w.heap.size 9 1 v (pth s).length (strs (pth s)) ∧ Below w.heap.size w w' := by
  obtain ⟨i0, hi, hz0, hz1, hz2⟩ := info_parts infoStr
  go_enter Tryd.func43, Tryd.ntmps43
  go_wp2_with fail
  refine (rParse_v s hs _).mono ?_; rintro e w1 h
  rcases h.cases with ⟨p, ao, cap, hP, hp, hs0, rfl, hr, hf, hb⟩ | ⟨hP, rfl, hb⟩
  · clear hs0
    have HP : Hid (pth s = prefs p) := pth_some hP
    have HPts := Lib.hid hp
    have HR := Lib.hid hr
    have HB := Lib.hid hb
    obtain ⟨l, hl⟩ : ∃ l, l = p.length := ⟨_, rfl⟩
    have hl5 : l ≤ 5 := by rw [hl]; exact hp.2.1
    have hcap : l ≤ cap := by have := hr.1; rw [ints_length] at this; omega
    have hcap2 : cap ≤ 9223372036854775807 := hr.2.1
    rw [← hl]
    have HL := Lib.hid hl
    clear hP hp hr hf hb h hl
    go_wp2_with fail
    go_loopw [5, 18] (fun s5 s18 wr => ∃ (i : Nat) (v5 : Value), i ≤ l ∧ s18 = .int .i64 (i : Int) ∧ v5 = s5 ∧ Hid (wr.ownsRow w1.heap.size 9 1 v5 i (strs ((prefs p).take i))) ∧ Hid (Below w1.heap.size w1 wr)) (fun _ s18 _ => l - (intOf s18).toNat)
    case atStart => exact ⟨0, _, by omega, rfl, rfl, World.ownsRow_nil _ _ _ _, Below.refl _ _⟩
    case round =>
      obtain ⟨i, v5, hil, rfl, rfl, hown, hbl⟩ := hrel
      have hBB : Hid (Below w.heap.size w wr) := HB.out.trans (hbl.out.mono HB.out.size)
      by_cases hlt : i < l
      · have hlt2 : (i : Int) < (l : Int) := by omega
        have hrd := HR.out.below hbl.out
        obtain ⟨b, o, rfl, _⟩ := hrd.atN (i := i) (by have := HL.out; omega)
        have hpi : (zz (p.take (i + 1))).length = i + 1 := by rw [zz_length, List.length_take]; have := HL.out; omega
        have hF := rFormat_v (some ⟨b, o, none⟩) cap (zz (p.take (i + 1))) wr (by have := hrd.takeN (i + 1); unfold RdN at this; rw [ints_z] at this; exact this)
        rw [hpi] at hF
        have hfm : ∀ e, FmtPost (zz (p.take (i + 1))) e → e = .returned (.tuple #[.string (txt (p.take (i + 1))), .int .i64 0]) := by
          have hpt : Pts (p.take (i + 1)) := HPts.out.take (by omega)
          intro e he
          rcases he with ⟨q, hq, e1, e2⟩ | ⟨hno, _⟩
          · rw [e2, zz_inj e1]
          · exact absurd rfl (hno _ hpt)
        have HFm := Lib.hid hfm
        have HF := Lib.hid hF
        have HTK : Hid (strs ((prefs p).take (i + 1)) = strs ((prefs p).take i) ++ [.string (txt (p.take (i + 1)))]) := by
          unfold Hid
          rw [prefs_take (by have := HL.out; omega)]
          simp [strs]
        obtain ⟨T, hT⟩ : ∃ T, T = txt (p.take (i + 1)) := ⟨_, rfl⟩
        unfold Hid at HFm HTK
        rw [← hT] at HFm HTK
        have HFm2 := Lib.hid HFm
        have HTK2 := Lib.hid HTK
        have hci : i + 1 ≤ cap := by omega
        have hci2 : (i : Int) + 1 ≤ (cap : Int) := by omega
        clear hF hfm hrd hpi HFm HTK hT
        go_wp2_with fail
        refine HF.out.mono ?_; rintro e w2 ⟨hpost, hb2⟩
        obtain rfl := HFm2.out e hpost
        have HB2 := Lib.hid (keep hBB.out hb2)
        have HB1 := Lib.hid (keep hbl.out hb2)
        have HO := Lib.hid (own_below hown.out hb2)
        have hsz2 : w1.heap.size ≤ w2.heap.size := HB1.out.size
        have hrows : ∀ k, v5.ownBlock = some k → w1.heap.size ≤ k := fun k e => (hown.out.lt k e).1
        clear hpost hb2
        go_wp2_with (at_builtin; refine wpList_append_own _ rfl _ _ 22 rfl w1.heap.size 9 i0 (.string ByteArray.empty) 1 16 Tryd.underlying22 hi hz0 hz1 hz2 rfl (by omega) _ _ _ rfl (HO.out.alloc _) ⟨w2.heap.size, 0, none⟩ 1 1 [.string T] rfl rfl (one_cell _ _ _) (by intro u hu; simp at hu; rcases hu with rfl; rfl) (by unfold maxLen; omega) (by omega) (by simp; omega) ?_; intro v3 w3 hown3 hgr3 _)
        have HB4 : Hid (Below w1.heap.size w1 w3) := app_below HB1.out hsz2 hgr3 hrows
        have HO3 : Hid (w3.ownsRow w1.heap.size 9 1 v3 (i + 1) (strs ((prefs p).take (i + 1)))) := by unfold Hid; rw [HTK2.out]; exact hown3
        clear hown3 hgr3
        go_wp2_with fail
        go_roundw
        case rel => exact ⟨i + 1, _, by omega, by go_num, rfl, HO3, HB4⟩
        case measure => simp [intOf]; omega
      · obtain rfl : i = l := by omega
        have hlt2 : ¬ (i : Int) < (i : Int) := by omega
        have HO3 : Hid (wr.ownsRow w.heap.size 9 1 v5 (pth s).length (strs (pth s))) := by
          unfold Hid
          have := own_mono hown.out HB.out.size
          rw [List.take_of_length_le (by rw [prefs_length]; have := HL.out; omega)] at this
          rw [HP.out, prefs_length, ← HL.out]
          exact this
        go_wp2_with fail
        go_ret
        exact ⟨_, rfl, HO3.out, hBB.out⟩
  · have HP : Hid (pth s = []) := pth_none hP
    clear hP h
    go_wp2_with fail
    go_ret
    rw [HP.out]
    exact ⟨_, rfl, World.ownsRow_nil _ _ _ _, hb⟩

set_option maxHeartbeats 4000000 in
theorem rParent_v (s : ByteArray) (hs : s.size ≤ 1000) (w : World) : Calls Tryd.prog 25 #[.string s] w fun e w' => e = .returned (.tuple #[.string (par s).1, .bool (par s).2]) ∧ Below w.heap.size w w' := by
  go_enter Tryd.func25, Tryd.ntmps25
  go_wp2_with fail
  refine (rPath_v s hs _).mono ?_; rintro e w1 ⟨v, rfl, hown, hb⟩
  obtain ⟨ao, cap, rfl, hr, _⟩ := RdV.of_row hown
  rw [strs_length]
  cases hP : P s with
  | none =>
    have HX : Hid (Ending.returned (.tuple #[.string emp, .bool false]) = .returned (.tuple #[.string (par s).1, .bool (par s).2])) := by unfold Hid par; rw [hP]
    rw [pth_none hP, List.length_nil]
    clear hP hr hown
    go_wp2_with fail
    go_ret2
    exact ⟨HX.out, hb⟩
  | some p =>
    have hp := P_some hP
    rw [pth_some hP] at hr ⊢
    rw [prefs_length]
    obtain ⟨q, n, rfl⟩ := snoc_of hp.1.1
    have HPar : par s = (txt q, true) := by rw [hp.2]; exact par_txt hp.1
    have HX : Hid (Ending.returned (.tuple #[.string (txt q), .bool true]) = .returned (.tuple #[.string (par s).1, .bool (par s).2])) := by unfold Hid; rw [HPar]
    have hq4 : q.length ≤ 4 := by have := hp.1.2.1; simp at this; omega
    by_cases hq : q = []
    · subst hq
      clear hP hp hr hown HPar
      go_wp2_with fail
      go_ret2
      exact ⟨HX.out, hb⟩
    · obtain ⟨k, hk⟩ : ∃ k, q.length = k + 1 := ⟨q.length - 1, by have := List.length_pos_iff.2 hq; omega⟩
      obtain ⟨b, o, rfl, hc⟩ := hr.atS (i := k) (by rw [prefs_length, List.length_append]; simp; omega)
      have hg : (prefs (q ++ [n])).getD k ByteArray.empty = txt q := by
        refine (prefs_get (p := q ++ [n]) (i := k) (by simp; omega)).trans ?_
        rw [List.take_append_of_le_length (by omega), ← hk, List.take_length]
      rw [hg] at hc
      have hlen : (q ++ [n]).length = k + 2 := by simp; omega
      obtain ⟨M, hM⟩ : ∃ M, M = k + 2 := ⟨_, rfl⟩
      rw [hlen, ← hM]
      have e1 : (M : Int) - 2 = (k : Int) := by omega
      have e2 : ((M : Int) == 0) = false := beq_eq_false_iff_ne.2 (by omega)
      have e3 : ((M : Int) == 1) = false := beq_eq_false_iff_ne.2 (by omega)
      have e4 : k < M := by omega
      have hk4 : k ≤ 5 := by omega
      have hk4' : (k : Int) < (M : Int) := by omega
      clear hM
      clear hP hp hr hown HPar hg hlen hk hq
      go_wp2_with fail
      go_ret2
      exact ⟨HX.out, hb⟩

theorem below_drewN' {A w : World} (h : Below A.heap.size A w) (n : Nat) : Below A.heap.size A (w.drewN n) := h.trans (gb_below (gb_drewN w n (some w.heap.size)) (Nat.le_refl _) |>.mono h.size)
set_option maxHeartbeats 4000000 in
theorem SameStrings_v (ao bo : Option Addr) (ca cb : Nat) (p q : List ByteArray) (w : World) (hp : RdS w ao ca p) (hq : RdS w bo cb q) :
    Calls Tryd.prog 13 #[.slice ao p.length ca, .slice bo q.length cb] w fun e w' => e = .returned (.bool (decide (p = q))) ∧ Below w.heap.size w w' := by
  by_cases hl : p.length = q.length
  · have HQ := Lib.hid hq
    have HP := Lib.hid hp
    have HF : Hid (∀ i, i < p.length → p.getD i ByteArray.empty ≠ q.getD i ByteArray.empty → false = decide (p = q)) := fun i hi hne => (decide_eq_false (fun e => hne (by rw [e]))).symm
    have HT : Hid ((∀ i, i < p.length → p.getD i ByteArray.empty = q.getD i ByteArray.empty) → true = decide (p = q)) := fun h => (decide_eq_true (by
      apply List.ext_getElem hl
      intro i h1 h2
      have := h i h1
      simpa [List.getD, h1, h2] using this)).symm
    obtain ⟨l, hll⟩ : ∃ l, l = p.length := ⟨_, rfl⟩
    rw [← hl, ← hll]
    have hlb : l ≤ 9223372036854775807 := by have h1 := hp.1; have h2 := hp.2.1; (first | rw [intz_length] at h1 | rw [strs_length] at h1); omega
    have HLL := Lib.hid hll
    have HL2 := Lib.hid hl
    clear hp hq hl hll
    go_enter Tryd.func13, Tryd.ntmps13
    go_wp2_with fail
    have hdl : ((l : Int) == (l : Int)) = true := beq_self_eq_true _
    go_loopw [13] (fun s13 wr => ∃ i : Nat, i ≤ l ∧ s13 = .int .i64 (i : Int) ∧ Hid (Below w.heap.size w wr) ∧ Hid (∀ j, j < i → p.getD j ByteArray.empty = q.getD j ByteArray.empty)) (fun s13 _ => l - (intOf s13).toNat)
    case atStart => exact ⟨0, by omega, rfl, Below.refl _ _, fun j hj => by omega⟩
    case round =>
      obtain ⟨i, hil, rfl, hbl, hpre⟩ := hrel
      by_cases hlt : i < l
      · have hlt2 : (i : Int) < (l : Int) := by omega
        obtain ⟨b, o, rfl, hc⟩ := (HP.out.below hbl.out).atS (i := i) (by have := HLL.out; omega)
        obtain ⟨b', o', rfl, hc'⟩ := (HQ.out.below hbl.out).atS (i := i) (by have := HLL.out; have := HL2.out; omega)
        obtain ⟨x, hx⟩ : ∃ x, x = p.getD i ByteArray.empty := ⟨_, rfl⟩
        obtain ⟨y, hy⟩ : ∃ y, y = q.getD i ByteArray.empty := ⟨_, rfl⟩
        rw [← hx] at hc
        rw [← hy] at hc'
        by_cases hxy : x = y
        · have HN : Hid (∀ j, j < i + 1 → p.getD j ByteArray.empty = q.getD j ByteArray.empty) := fun j hj => by
            by_cases hji : j < i
            · exact hpre.out j hji
            · obtain rfl : j = i := by omega
              rw [← hx, ← hy]; exact hxy
          have hb : (x.toList == y.toList) = true := eq_text hxy
          have hb2 : (x.toList != y.toList) = false := by rw [bne, hb]; rfl
          clear hx hy hxy
          go_wp2_with fail
          go_quiet (fail)
          go_wp2_with fail
          go_roundw
          case rel => exact ⟨i + 1, by omega, by go_num, below_drewN' hbl.out _, HN⟩
          case measure => simp [intOf]; omega
        · have HX := Lib.hid (HF.out i (by have := HLL.out; omega) (by rw [← hx, ← hy]; exact hxy))
          have hb : (x.toList == y.toList) = false := ne_text hxy
          have hb2 : (x.toList != y.toList) = true := by rw [bne, hb]; rfl
          clear hx hy hxy
          go_wp2_with fail
          go_quiet (fail)
          go_wp2_with fail
          go_ret
          exact ⟨ret_bool HX.out, below_drewN' hbl.out _⟩
      · obtain rfl : i = l := by omega
        have HX := Lib.hid (HT.out (fun j hj => hpre.out j (by have := HLL.out; omega)))
        have hlt2 : ¬ (i : Int) < (i : Int) := by omega
        go_wp2_with fail
        go_ret
        exact ⟨ret_bool HX.out, hbl.out⟩
  · have HX : Hid (false = decide (p = q)) := (decide_eq_false (fun e => hl (by rw [e]))).symm
    have hne : ((p.length : Int) == (q.length : Int)) = false := beq_eq_false_iff_ne.2 (by omega)
    have hne2 : ((p.length : Int) != (q.length : Int)) = true := by rw [bne, hne]; rfl
    clear hp hq
    go_enter Tryd.func13, Tryd.ntmps13
    go_wp2_with fail
    go_ret
    exact ⟨ret_bool HX.out, Below.refl _ _⟩
end Go.Proofs.YtkodfmpaeemaiaaDoor.C6
