import Derived.Test.YtkodfmpaeemaiaaDoorCls19
import Derived.Test.YtkodfmpaeemaiaaDoorCls24
/- Package classification: the reference's Children. -/
namespace Go.Proofs.YtkodfmpaeemaiaaDoor.C6
open Go.RowKit Go.Sort

theorem val_zero {l : List ByteArray} (h : val l = 0) : ∀ i, i < l.length → vst l i = 0 := by
  have h1 : ¬ (l.length = 0 ∨ 200 < l.length) := fun c => by rw [val_count c] at h; omega
  intro i
  induction i using Nat.strongRecOn with
  | ind i ih =>
    intro hi
    apply Classical.byContradiction
    intro hne
    have := val_hit h1 hi (fun j hj => ih j hj (by omega)) hne
    rw [this] at h
    exact hne h
theorem par_valid {l : List ByteArray} (h : val l = 0) {i : Nat} (hi : i < l.length) : (par (l.getD i ByteArray.empty)).2 = true := by
  have h0 := val_zero h i hi
  cases hP : P (l.getD i ByteArray.empty) with
  | none =>
    unfold vst at h0
    rw [show l.getD i emp = l.getD i ByteArray.empty from rfl, vs_code hP] at h0
    omega
  | some p => unfold par; rw [hP]
theorem kn_val {l : List ByteArray} {u : ByteArray} (h : kn l u = true) : val l = 0 := by
  unfold kn at h
  rw [Bool.and_eq_true] at h
  exact beq_iff_eq.1 h.1

set_option maxHeartbeats 8000000 in
set_option maxRecDepth 100000 in
theorem rChildren_v (nm : ByteArray) (ao : Option Addr) (cap : Nat) (l : List ByteArray) (u : ByteArray) (w : World) (h : RdS w ao cap l) (hl : l.length ≤ 1000) (hsz : ∀ s ∈ l, s.size ≤ 1000) :
    Calls Tryd.prog 15 #[.agg #[.string nm, .slice ao l.length cap], .string u] w (SelPost w (selK l u (chf l u))) := by
  obtain ⟨i0, hi, hz0, hz1, hz2⟩ := info_parts infoStr
  obtain ⟨n, hn⟩ : ∃ n, n = l.length := ⟨_, rfl⟩
  have b1 := below_new w (.cells #[.string nm, .slice ao l.length cap] 24)
  have k1 := Cls.new w nm ao l.length cap
  obtain ⟨W1, hW1⟩ : ∃ W1, W1 = w.alloc (.cells #[.string nm, .slice ao l.length cap] 24) := ⟨_, rfl⟩
  rw [← hW1] at b1 k1
  obtain ⟨g, hg⟩ : ∃ g, g = w.heap.size := ⟨_, rfl⟩
  rw [← hg] at k1
  have hV := fun w h => known_v nm ao cap l u w h hl hsz
  have hcp : n ≤ cap := by have := h.1; rw [strs_length] at this; omega
  have hcp2 := h.2.1
  rw [← hn] at hl hW1 k1 hV ⊢
  obtain ⟨kk, hkk⟩ : ∃ k, k = kn l u := ⟨_, rfl⟩
  rw [← hkk] at hV
  have HV := Lib.hid hV
  have HB1 := Lib.hid b1
  have HK1 := Lib.hid k1
  have HR0 := Lib.hid h
  have HN := Lib.hid hn
  have HG := Lib.hid hg
  have HKK := Lib.hid hkk
  have HSZ : Hid (∀ s ∈ l, s.size ≤ 1000) := hsz
  have q1 := k1.c1
  clear b1 k1 h hn hV hkk hsz
  go_enter Tryd.func15, Tryd.ntmps15
  go_wp2_with fail
  rw [← hW1, ← hg]
  clear hW1 hg q1
  cases kk
  · go_loopw [5, 13] (fun s5 s13 wr => ∃ (i : Nat), i ≤ n ∧ s13 = .int .i64 (i : Int) ∧ s5 = .slice none 0 0 ∧ Hid (Cls wr g nm ao n cap) ∧ Hid (Below w.heap.size w wr)) (fun _ s13 _ => n - (intOf s13).toNat)
    case atStart => exact ⟨0, by omega, rfl, rfl, HK1, HB1⟩
    case round =>
      obtain ⟨i, hin, rfl, rfl, hcl, hbl⟩ := hrel
      by_cases hlt : i < n
      · have hlt2 : (i : Int) < (n : Int) := by omega
        have hil : i < l.length := by have := HN.out; omega
        have hrd := HR0.out.below hbl.out
        obtain ⟨b, o, e0, hc⟩ := hrd.atS (i := i) hil
        obtain ⟨x, hx⟩ : ∃ x, x = l.getD i ByteArray.empty := ⟨_, rfl⟩
        have hxs : x.size ≤ 1000 := HSZ.out x (by rw [hx]; simp [List.getD, hil])
        have hpx := fun w => rParent_v x hxs w
        obtain ⟨pa, hpa⟩ : ∃ p, p = (par x).1 := ⟨_, rfl⟩
        obtain ⟨pb, hpb⟩ : ∃ p, p = (par x).2 := ⟨_, rfl⟩
        rw [← hpa, ← hpb] at hpx
        have HPX := Lib.hid hpx
        rw [← hx] at hc
        subst e0
        clear hrd hx hpx hpa hpb
        go_wp2_with fail
        refine (HPX.out _).mono ?_; rintro e w3 ⟨rfl, b3⟩
        have HBA := Lib.hid (keep hbl.out b3)
        have HKA := Lib.hid (hcl.out.below b3)
        have q4 := HKA.out.c1
        have q5 := HKA.out.c0
        clear b3
        go_wp2_with fail
        refine (HV.out _ (HR0.out.below HBA.out)).mono ?_; rintro e w4 ⟨rfl, b4⟩
        have HB3 := Lib.hid (keep HBA.out b4)
        have HK3 := Lib.hid (HKA.out.below b4)
        clear b4 q4 q5
        go_wp2_with fail
        go_roundw
        case rel => exact ⟨i + 1, by omega, by go_num, rfl, HK3, HB3⟩
        case measure => simp [intOf]; omega
      · obtain rfl : i = n := by omega
        have hlt2 : ¬ (i : Int) < (i : Int) := by omega
        have HPost : Hid (SelPost w (selK l u (chf l u)) (.returned (.slice none 0 0)) wr) := by
          unfold Hid selK
          rw [← HKK.out]
          exact ⟨_, rfl, World.ownsRow_nil _ _ _ _, hbl.out⟩
        go_wp2_with fail
        go_ret
        exact HPost.out
  · go_loopw [5, 13] (fun s5 s13 wr => ∃ (i m : Nat) (v7 : Value), i ≤ n ∧ m ≤ i ∧ s13 = .int .i64 (i : Int) ∧ v7 = s5 ∧ Hid (m = (selT l (chf l u) i).length) ∧ Hid (wr.ownsRow (g + 1) 9 1 v7 m (strs (selT l (chf l u) i))) ∧ Hid (Cls wr g nm ao n cap) ∧ Hid (Below w.heap.size w wr)) (fun _ s13 _ => n - (intOf s13).toNat)
    case atStart => exact ⟨0, 0, _, by omega, by omega, rfl, rfl, rfl, World.ownsRow_nil _ _ _ _, HK1, HB1⟩
    case round =>
      obtain ⟨i, m, v7, hin, hmi, rfl, rfl, hm, hown, hcl, hbl⟩ := hrel
      by_cases hlt : i < n
      · have hlt2 : (i : Int) < (n : Int) := by omega
        have hil : i < l.length := by have := HN.out; omega
        have hrd := HR0.out.below hbl.out
        obtain ⟨b, o, e0, hc⟩ := hrd.atS (i := i) hil
        obtain ⟨x, hx⟩ : ∃ x, x = l.getD i ByteArray.empty := ⟨_, rfl⟩
        have hxs : x.size ≤ 1000 := HSZ.out x (by rw [hx]; simp [List.getD, hil])
        have hpx := fun w => rParent_v x hxs w
        have hok : (par x).2 = true := by rw [hx]; exact par_valid (kn_val HKK.out.symm) hil
        obtain ⟨pa, hpa⟩ : ∃ p, p = (par x).1 := ⟨_, rfl⟩
        rw [← hpa, hok] at hpx
        have HT0 : Hid (chf l u i = (pa.toList == u.toList)) := by unfold Hid chf; rw [hpa, hx]
        have HPX := Lib.hid hpx
        have HX := Lib.hid hx
        rw [← hx] at hc
        subst e0
        clear hrd hx hpx hpa hok
        go_wp2_with fail
        refine (HPX.out _).mono ?_; rintro e w3 ⟨rfl, b3⟩
        have HBA := Lib.hid (keep hbl.out b3)
        have HOA := Lib.hid (own_below hown.out b3)
        have HKA := Lib.hid (hcl.out.below b3)
        have q4 := HKA.out.c1
        have q5 := HKA.out.c0
        clear b3
        go_wp2_with fail
        refine (HV.out _ (HR0.out.below HBA.out)).mono ?_; rintro e w4 ⟨rfl, b4⟩
        have HB3 := Lib.hid (keep HBA.out b4)
        have HO := Lib.hid (own_below HOA.out b4)
        have HK3 := Lib.hid (HKA.out.below b4)
        have hsz2 : g + 1 ≤ w4.heap.size := HK3.out.lt
        have hsz3 : w.heap.size ≤ w4.heap.size := HB3.out.size
        have hrows : ∀ k, v7.ownBlock = some k → g + 1 ≤ k := fun k e => (hown.out.lt k e).1
        have hgn : some g ≠ v7.ownBlock := fun e => by have := hrows g e.symm; omega
        clear b4 q4 q5
        cases ht : pa.toList == u.toList
        · have HTF : Hid (chf l u i = false) := HT0.out.trans ht
          have HM : Hid (m = (selT l (chf l u) (i + 1)).length) := by unfold Hid; rw [selT_no HTF.out]; exact hm.out
          have HO3 : Hid (w4.ownsRow (g + 1) 9 1 v7 m (strs (selT l (chf l u) (i + 1)))) := by unfold Hid; rw [selT_no HTF.out]; exact HO.out
          go_wp2_with fail
          go_roundw
          case rel => exact ⟨i + 1, m, _, by omega, by omega, by go_num, rfl, HM, HO3, HK3, HB3⟩
          case measure => simp [intOf]; omega
        · have HTT : Hid (chf l u i = true) := HT0.out.trans ht
          have HM : Hid (m + 1 = (selT l (chf l u) (i + 1)).length) := by unfold Hid; rw [selT_yes HTT.out, List.length_append, ← hm.out]; rfl
          have HTK : Hid (strs (selT l (chf l u) (i + 1)) = strs (selT l (chf l u) i) ++ [.string x]) := by unfold Hid; rw [selT_yes HTT.out, show l.getD i emp = x from HX.out.symm]; simp [strs]
          go_wp2_with (at_builtin; refine wpList_append_own _ rfl _ _ 22 rfl (g + 1) 9 i0 (.string ByteArray.empty) 1 16 Tryd.underlying22 hi hz0 hz1 hz2 rfl (by omega) _ _ _ rfl (HO.out.alloc _) ⟨w4.heap.size, 0, none⟩ 1 1 [.string x] rfl rfl (one_cell _ _ _) (by intro u hu; simp at hu; rcases hu with rfl; rfl) (by unfold maxLen; omega) (by omega) (by simp; omega) ?_; intro v5 w5 hown5 hgr5 _)
          have HB4 : Hid (Below w.heap.size w w5) := app_below HB3.out hsz3 hgr5 (fun k e => by have := hrows k e; have := HG.out; omega)
          have HO3 : Hid (w5.ownsRow (g + 1) 9 1 v5 (m + 1) (strs (selT l (chf l u) (i + 1)))) := by unfold Hid; rw [HTK.out]; exact hown5
          have HK4 : Hid (Cls w5 g nm (some ⟨b, o, none⟩) n cap) := (hgr5.block g (by simp; omega) hgn).trans (HK3.out.below (below_new _ _))
          clear hown5 hgr5
          go_wp2_with fail
          go_roundw
          case rel => exact ⟨i + 1, m + 1, _, by omega, by omega, by go_num, rfl, HM, HO3, HK4, HB4⟩
          case measure => simp [intOf]; omega
      · obtain rfl : i = n := by omega
        have hlt2 : ¬ (i : Int) < (i : Int) := by omega
        have HPost : Hid (SelPost w (selK l u (chf l u)) (.returned v7) wr) := by
          unfold Hid selK
          rw [if_pos HKK.out.symm, ← HN.out]
          exact ⟨_, rfl, by rw [← hm.out]; exact own_mono hown.out (by have := HG.out; omega), hbl.out⟩
        go_wp2_with fail
        go_ret
        exact HPost.out
end Go.Proofs.YtkodfmpaeemaiaaDoor.C6
