import Derived.Test.YtejcdgkcmbmbmaaDoorClsV
import Derived.Test.YtejcdgkcmbmbmaaDoorCls4
/- The list of ClassificationMany: valid up to two hundred codes. -/
namespace Go.Proofs.YtejcdgkcmbmbmaaDoor.C6
open Go.RowKit

def pt (i : Nat) : List Nat := if i % 100 = 0 then [1 + i / 100] else [1 + i / 100, i % 100]
def lm (k : Nat) : List ByteArray := (List.range k).map fun i => txt (pt i)
theorem lm_length (k : Nat) : (lm k).length = k := by simp [lm]
theorem lm_succ (k : Nat) : lm (k + 1) = lm k ++ [txt (pt k)] := by simp [lm, List.range_succ]
theorem pt_pts {i : Nat} (h : i ≤ 300) : Pts (pt i) := by
  unfold pt
  split
  · exact ⟨by simp, by simp, Ns.mk ⟨by omega, by omega⟩ Ns.nil⟩
  · exact ⟨by simp, by simp, Ns.mk ⟨by omega, by omega⟩ (Ns.mk ⟨by omega, by omega⟩ Ns.nil)⟩
theorem lm_get {k i : Nat} (h : i < k) : (lm k).getD i emp = txt (pt i) := by simp [lm, List.getD, h]
theorem lm_take {k i : Nat} (h : i ≤ k) : (lm k).take i = lm i := by
  unfold lm
  rw [← List.map_take, List.take_range, Nat.min_eq_left h]
theorem pt_order (j : Nat) : cmpL (pt j) (pt (j + 1)) < 0 := by
  unfold pt
  by_cases h1 : (j + 1) % 100 = 0
  · rw [if_neg (by omega), if_pos h1]
    simp only [cmpL]
    rw [if_pos (by omega)]
    omega
  · by_cases h2 : j % 100 = 0
    · rw [if_pos h2, if_neg h1]
      simp only [cmpL]
      rw [if_neg (by omega), if_neg (by omega)]
      omega
    · rw [if_neg h2, if_neg h1]
      simp only [cmpL]
      rw [if_neg (by omega), if_neg (by omega), if_pos (by omega)]
      omega
theorem lm_step {k i : Nat} (h : i < k) (hk : k ≤ 200) : vst (lm k) i = 0 := by
  unfold vst
  rw [lm_get h, lm_take (Nat.le_of_lt h)]
  have hp := pt_pts (i := i) (by omega)
  refine vs_ok (P_txt hp) ?_ ?_
  · rintro ⟨h1, h2⟩
    rw [lm_length] at h1 h2
    obtain ⟨j, rfl⟩ : ∃ j, i = j + 1 := ⟨i - 1, by omega⟩
    rw [show j + 1 - 1 = j by omega, lm_get (by omega)] at h2
    have ho := pt_order j
    unfold cmpS at h2
    rw [PO_of_P (P_txt (pt_pts (i := j) (by omega))), PO_of_P (P_txt hp)] at h2
    simp only at h2
    omega
  · rintro ⟨h1, h2⟩
    have hpar : (par (txt (pt i))).1 = txt (pt i).dropLast := by unfold par; rw [P_txt hp]
    rw [hpar] at h1 h2
    by_cases hm : i % 100 = 0
    · have : (pt i).dropLast = [] := by unfold pt; rw [if_pos hm]; rfl
      rw [this, txt_nil] at h1
      have he : emp.toList.isEmpty = true := by rw [ByteArray.toList_eq]; rfl
      rw [he] at h1
      cases h1
    · have hd : (pt i).dropLast = pt (i - i % 100) := by
        unfold pt
        rw [if_neg hm, if_pos (by omega)]
        simp only [List.dropLast]
        congr 1
        omega
      have hmem : Lib.containsS (lm i) (txt (pt i).dropLast) = true := by
        rw [Lib.containsS_iff, hd]
        unfold lm
        exact List.mem_map.2 ⟨i - i % 100, List.mem_range.2 (by omega), rfl⟩
      rw [hmem] at h2
      cases h2
theorem lm_val {k : Nat} (h : 1 ≤ k) (hk : k ≤ 200) : val (lm k) = 0 := val_ok (by rw [lm_length]; omega) (fun j hj => lm_step (by rw [lm_length] at hj; exact hj) hk)
theorem lm_over {k : Nat} (h : 200 < k) : val (lm k) = 61 := val_count (.inr (by rw [lm_length]; exact h))
end Go.Proofs.YtejcdgkcmbmbmaaDoor.C6
