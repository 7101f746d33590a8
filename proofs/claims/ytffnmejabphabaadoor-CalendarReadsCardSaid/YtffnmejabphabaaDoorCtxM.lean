import Derived.Test.YtffnmejabphabaaDoorCtx1
import Derived.Lib.Atoi
/- The texts of dates and periods in plain lists of bytes: reading them back. -/
namespace Go.Proofs.YtffnmejabphabaaDoor
open Go.RowKit Go.Sort

theorem digitVal_of {x : Nat} (h : x < 10) : Lib.digitVal (UInt8.ofNat (48 + x)) = some x := by
  unfold Lib.digitVal
  rw [digit_byte x h, if_pos (by omega)]
  congr 1; omega
theorem digit_not {x : Nat} (h : x < 10) (c : UInt8) (hc : c.toNat < 48) : (UInt8.ofNat (48 + x) == c) = false := by
  rw [beq_eq_false_iff_ne]
  intro e
  have := congrArg UInt8.toNat e
  rw [digit_byte x h] at this
  omega
theorem decFrom_tw (acc a : Nat) (h : a < 100) (l : List UInt8) : Lib.decFrom acc (tw a ++ l) = Lib.decFrom (acc * 100 + a) l := by
  simp only [tw, List.cons_append, List.nil_append, Lib.decFrom]
  rw [digitVal_of (show a / 10 < 10 by omega)]
  simp only
  rw [digitVal_of (show a % 10 < 10 by omega)]
  simp only
  congr 1; omega
theorem decFrom_two (a : Nat) (h : a < 100) : Lib.decFrom 0 (tw a) = some a := by
  have := decFrom_tw 0 a h []
  rw [List.append_nil] at this
  rw [this]; simp [Lib.decFrom]
theorem decFrom_four (a b : Nat) (h : a < 100) (h2 : b < 100) : Lib.decFrom 0 (tw a ++ tw b) = some (100 * a + b) := by
  have h1 := decFrom_tw 0 a h (tw b)
  have h3 := decFrom_tw (0 * 100 + a) b h2 []
  rw [List.append_nil] at h3
  rw [h1, h3]; simp [Lib.decFrom]; omega
theorem atoi_tw (a : Nat) (h : a < 100) (l : List UInt8) (n : Nat) (hn : Lib.decFrom 0 (tw a ++ l) = some n) : Lib.atoi (tw a ++ l) = some (n : Int) := by
  have hl : tw a ++ l = UInt8.ofNat (48 + a / 10) :: (UInt8.ofNat (48 + a % 10) :: l) := rfl
  rw [hl] at hn ⊢
  unfold Lib.atoi
  simp only [digit_not (show a / 10 < 10 by omega) 45 (by decide), digit_not (show a / 10 < 10 by omega) 43 (by decide), Bool.false_eq_true, if_false, Lib.decNat, List.isEmpty_cons, hn]
  rfl
theorem atoi_two (a : Nat) (h : a < 100) : Lib.atoi (tw a) = some (a : Int) := by
  have := atoi_tw a h [] a (by rw [List.append_nil]; exact decFrom_two a h)
  rwa [List.append_nil] at this
theorem atoi_four (a b : Nat) (h : a < 100) (h2 : b < 100) : Lib.atoi (tw a ++ tw b) = some ((100 * a + b : Nat) : Int) := atoi_tw a h (tw b) _ (decFrom_four a b h h2)

theorem digitVal_some {b : UInt8} {d : Nat} (h : Lib.digitVal b = some d) : b = UInt8.ofNat (48 + d) ∧ d < 10 := by
  unfold Lib.digitVal at h
  split at h
  · rename_i hb
    have hd : b.toNat - 48 = d := by simpa using h
    refine ⟨?_, by omega⟩
    rw [show 48 + d = b.toNat by omega]
    exact (UInt8.ofNat_toNat).symm
  · cases h
/-- two digits that spell v are v's -/
theorem two_back {b0 b1 : UInt8} {acc v : Nat} {l : List UInt8} (h : Lib.decFrom acc (b0 :: b1 :: l) = some v) : ∃ a, a < 100 ∧ [b0, b1] = tw a ∧ Lib.decFrom (acc * 100 + a) l = some v := by
  simp only [Lib.decFrom] at h
  cases h0 : Lib.digitVal b0 with
  | none => simp [h0] at h
  | some x =>
    simp only [h0] at h
    cases h1 : Lib.digitVal b1 with
    | none => simp [h1] at h
    | some y =>
      simp only [h1] at h
      obtain ⟨rfl, hx⟩ := digitVal_some h0
      obtain ⟨rfl, hy⟩ := digitVal_some h1
      refine ⟨10 * x + y, by omega, ?_, ?_⟩
      · simp only [tw]
        rw [show (10 * x + y) / 10 = x by omega, show (10 * x + y) % 10 = y by omega]
      · rw [← h]; congr 1; omega

/-- a number of digits of a text, or -1 -/
def nm (l : List UInt8) : Int := match Lib.decFrom 0 l with | some v => (v : Int) | none => -1
theorem nm_two {b0 b1 : UInt8} (h : 0 ≤ nm [b0, b1]) : ∃ a : Nat, a < 100 ∧ [b0, b1] = tw a ∧ nm [b0, b1] = (a : Int) := by
  unfold nm at h ⊢
  cases hd : Lib.decFrom 0 [b0, b1] with
  | none => rw [hd] at h; simp at h
  | some v =>
    obtain ⟨a, ha, e, hv⟩ := two_back hd
    simp [Lib.decFrom] at hv
    exact ⟨a, ha, e, by simp; omega⟩
theorem nm_four {b0 b1 b2 b3 : UInt8} (h : 0 ≤ nm [b0, b1, b2, b3]) : ∃ a b : Nat, a < 100 ∧ b < 100 ∧ [b0, b1] = tw a ∧ [b2, b3] = tw b ∧ nm [b0, b1, b2, b3] = 100 * (a : Int) + (b : Int) := by
  unfold nm at h ⊢
  cases hd : Lib.decFrom 0 [b0, b1, b2, b3] with
  | none => rw [hd] at h; simp at h
  | some v =>
    obtain ⟨a, ha, e, hv⟩ := two_back hd
    obtain ⟨b, hb, e2, hv2⟩ := two_back hv
    simp [Lib.decFrom] at hv2
    exact ⟨a, b, ha, hb, e, e2, by simp; omega⟩
theorem nm_tw (a : Nat) (h : a < 100) : nm (tw a) = (a : Int) := by unfold nm; rw [decFrom_two a h]
theorem nm_tw2 (a b : Nat) (h : a < 100) (h2 : b < 100) : nm (tw a ++ tw b) = 100 * (a : Int) + (b : Int) := by unfold nm; rw [decFrom_four a b h h2]; simp

/-- the date that a text is -/
def DayOf (s : ByteArray) (y m d e : Int) : Prop :=
  (∃ k r i : Nat, k < 500 ∧ r < 12 ∧ 1 ≤ i ∧ (i : Int) ≤ mlI (1900 + (k : Int)) ((r : Int) + 1) ∧ s = dayT k r i ∧ y = 1900 + (k : Int) ∧ m = (r : Int) + 1 ∧ d = (i : Int) ∧ e = 0) ∨
  ((∀ k r i : Nat, k < 500 → r < 12 → 1 ≤ i → (i : Int) ≤ mlI (1900 + (k : Int)) ((r : Int) + 1) → s ≠ dayT k r i) ∧ y = 0 ∧ m = 0 ∧ d = 0 ∧ e = 54)
def PerOf (s : ByteArray) (p e : Int) : Prop := (∃ k r : Nat, k < 500 ∧ r < 12 ∧ s = perT k r ∧ p = 12 * (k : Int) + (r : Int) ∧ e = 0) ∨ ((∀ k r : Nat, k < 500 → r < 12 → s ≠ perT k r) ∧ p = 0 ∧ e = 54)
theorem dayT_size (k r i : Nat) : (dayT k r i).size = 10 := rfl
theorem perT_size (k r : Nat) : (perT k r).size = 7 := rfl
theorem dayT_list (k r i : Nat) : (dayT k r i).data.toList = tw ((1900 + k) / 100) ++ tw ((1900 + k) % 100) ++ [45] ++ tw (r + 1) ++ [45] ++ tw i := rfl
theorem perT_list (k r : Nat) : (perT k r).data.toList = tw ((1900 + k) / 100) ++ tw ((1900 + k) % 100) ++ [45] ++ tw (r + 1) := rfl
theorem tw_inj {a b : Nat} (ha : a < 100) (hb : b < 100) (h : tw a = tw b) : a = b := by
  have h1 := decFrom_two a ha
  rw [h, decFrom_two b hb] at h1
  simpa using h1.symm
theorem perL_inj {k r k' r' : Nat} (hk : k < 500) (hr : r < 12) (hk' : k' < 500) (hr' : r' < 12) (h : perL k r = perL k' r') : k = k' ∧ r = r' := by
  unfold perL at h
  have e : (tw ((1900 + k) / 100) ++ tw ((1900 + k) % 100)).length = (tw ((1900 + k') / 100) ++ tw ((1900 + k') % 100)).length := rfl
  rw [List.append_assoc, List.append_assoc (tw ((1900 + k') / 100) ++ tw ((1900 + k') % 100))] at h
  obtain ⟨h1, h2⟩ := List.append_inj h e
  obtain ⟨h3, h4⟩ := List.append_inj h1 rfl
  have a := tw_inj (by omega) (by omega) h3
  have b := tw_inj (by omega) (by omega) h4
  have h5 : tw (r + 1) = tw (r' + 1) := by simpa using h2
  have c := tw_inj (by omega) (by omega) h5
  omega
theorem ba_ext {a b : ByteArray} (h : a.data.toList = b.data.toList) : a = b := by
  apply ByteArray.ext
  exact Array.toList_inj.1 h
theorem perT_inj {k r k' r' : Nat} (hk : k < 500) (hr : r < 12) (hk' : k' < 500) (hr' : r' < 12) (h : perT k r = perT k' r') : k = k' ∧ r = r' :=
  perL_inj hk hr hk' hr' (congrArg (fun s : ByteArray => s.data.toList) h)
theorem dayT_inj {k r i k' r' i' : Nat} (hk : k < 500) (hr : r < 12) (hi : i < 100) (hk' : k' < 500) (hr' : r' < 12) (hi' : i' < 100) (h : dayT k r i = dayT k' r' i') : k = k' ∧ r = r' ∧ i = i' := by
  have h0 : perL k r ++ ([45] ++ tw i) = perL k' r' ++ ([45] ++ tw i') := by
    have := congrArg (fun s : ByteArray => s.data.toList) h
    exact this
  obtain ⟨h1, h2⟩ := List.append_inj h0 rfl
  obtain ⟨a, b⟩ := perL_inj hk hr hk' hr' h1
  have h5 : tw i = tw i' := by simpa using h2
  exact ⟨a, b, tw_inj hi hi' h5⟩
theorem DayOf.uniq {s : ByteArray} {y m d e y' m' d' e' : Int} (h : DayOf s y m d e) (g : DayOf s y' m' d' e') : y = y' ∧ m = m' ∧ d = d' ∧ e = e' := by
  rcases h with ⟨k, r, i, hk, hr, hi, hm, rfl, rfl, rfl, rfl, rfl⟩ | ⟨hn, rfl, rfl, rfl, rfl⟩
  · rcases g with ⟨k', r', i', hk', hr', hi', hm', hs, rfl, rfl, rfl, rfl⟩ | ⟨hn', _⟩
    · have a := mlI_bd (1900 + (k : Int)) ((r : Int) + 1)
      have b := mlI_bd (1900 + (k' : Int)) ((r' : Int) + 1)
      obtain ⟨rfl, rfl, rfl⟩ := dayT_inj hk hr (by omega) hk' hr' (by omega) hs
      exact ⟨rfl, rfl, rfl, rfl⟩
    · exact absurd rfl (hn' k r i hk hr hi hm)
  · rcases g with ⟨k', r', i', hk', hr', hi', hm', hs, _⟩ | ⟨_, rfl, rfl, rfl, rfl⟩
    · exact absurd hs (hn k' r' i' hk' hr' hi' hm')
    · exact ⟨rfl, rfl, rfl, rfl⟩
theorem PerOf.uniq {s : ByteArray} {p e p' e' : Int} (h : PerOf s p e) (g : PerOf s p' e') : p = p' ∧ e = e' := by
  rcases h with ⟨k, r, hk, hr, rfl, rfl, rfl⟩ | ⟨hn, rfl, rfl⟩
  · rcases g with ⟨k', r', hk', hr', hs, rfl, rfl⟩ | ⟨hn', _⟩
    · obtain ⟨rfl, rfl⟩ := perT_inj hk hr hk' hr' hs
      exact ⟨rfl, rfl⟩
    · exact absurd rfl (hn' k r hk hr)
  · rcases g with ⟨k', r', hk', hr', hs, _⟩ | ⟨_, rfl, rfl⟩
    · exact absurd hs (hn k' r' hk' hr')
    · exact ⟨rfl, rfl⟩

/-- a text of ten bytes -/
theorem ten_bytes (s : ByteArray) (h : s.size = 10) : ∃ b0 b1 b2 b3 b4 b5 b6 b7 b8 b9, s.data.toList = [b0, b1, b2, b3, b4, b5, b6, b7, b8, b9] := by
  have hl : s.data.toList.length = 10 := by simpa using h
  match hs : s.data.toList, hl with
  | [b0, b1, b2, b3, b4, b5, b6, b7, b8, b9], _ => exact ⟨b0, b1, b2, b3, b4, b5, b6, b7, b8, b9, rfl⟩
/-- what the reference reads off a text of ten bytes with its dashes -/
theorem day_of_bytes {s : ByteArray} {b0 b1 b2 b3 b4 b5 b6 b7 b8 b9 : UInt8} (hs : s.data.toList = [b0, b1, b2, b3, b4, b5, b6, b7, b8, b9]) :
    (b4 = 45 → b7 = 45 → vdI (nm [b0, b1, b2, b3]) (nm [b5, b6]) (nm [b8, b9]) = true → DayOf s (nm [b0, b1, b2, b3]) (nm [b5, b6]) (nm [b8, b9]) 0) ∧
    ((b4 ≠ 45 ∨ b7 ≠ 45 ∨ vdI (nm [b0, b1, b2, b3]) (nm [b5, b6]) (nm [b8, b9]) = false) → DayOf s 0 0 0 54) := by
  constructor
  · intro h4 h7 hv
    obtain ⟨k, r, hk, hr, ey, em, h1, h2⟩ := vd_true hv
    obtain ⟨a, b, ha, hb, e0, e1, ev⟩ := nm_four (b0 := b0) (b1 := b1) (b2 := b2) (b3 := b3) (by omega)
    obtain ⟨c, hc, e2, ec⟩ := nm_two (b0 := b5) (b1 := b6) (by omega)
    obtain ⟨i, hi, e3, ei⟩ := nm_two (b0 := b8) (b1 := b9) (by omega)
    refine .inl ⟨k, r, i, hk, hr, by omega, by omega, ?_, ey, em, ei, rfl⟩
    apply ba_ext
    rw [hs, dayT_list]
    have f0 : (1900 + k) / 100 = a := by omega
    have f1 : (1900 + k) % 100 = b := by omega
    have f2 : r + 1 = c := by omega
    rw [f0, f1, f2, ← e0, ← e1, ← e2, ← e3, h4, h7]
    rfl
  · intro h
    refine .inr ⟨?_, rfl, rfl, rfl, rfl⟩
    intro k r i hk hr hi hm e
    have hb := mlI_bd (1900 + (k : Int)) ((r : Int) + 1)
    rw [e, dayT_list] at hs
    simp only [tw, List.cons_append, List.nil_append, List.cons.injEq, and_true] at hs
    obtain ⟨rfl, rfl, rfl, rfl, rfl, rfl, rfl, rfl, rfl, rfl⟩ := hs
    rcases h with h | h | h
    · exact h rfl
    · exact h rfl
    · have n1 := nm_tw2 ((1900 + k) / 100) ((1900 + k) % 100) (by omega) (by omega)
      have n2 := nm_tw (r + 1) (by omega)
      have n3 := nm_tw i (by omega)
      simp only [tw, List.cons_append, List.nil_append] at n1 n2 n3
      rw [n1, n2, n3] at h
      have ey : 100 * (((1900 + k) / 100 : Nat) : Int) + (((1900 + k) % 100 : Nat) : Int) = 1900 + (k : Int) := by omega
      rw [ey, show ((r + 1 : Nat) : Int) = (r : Int) + 1 by omega] at h
      have : vdI (1900 + (k : Int)) ((r : Int) + 1) (i : Int) = true := by
        unfold vdI
        simp only [Bool.and_eq_true, decide_eq_true_eq]
        omega
      rw [this] at h
      cases h
end Go.Proofs.YtffnmejabphabaaDoor
