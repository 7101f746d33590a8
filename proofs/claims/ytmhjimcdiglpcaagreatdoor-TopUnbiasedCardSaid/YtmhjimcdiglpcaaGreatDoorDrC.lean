import Derived.Test.YtmhjimcdiglpcaaGreatDoorDrA
import Derived.Test.YtmhjimcdiglpcaaGreatDoorDrB
import Derived.Test.YtmhjimcdiglpcaaGreatDoorRatsE
import Derived.Test.YtmhjimcdiglpcaaGreatDoorSmpAw
/- The reference's check of sizes and a number; its search for the next certain unit. -/
namespace Go.Proofs.YtmhjimcdiglpcaaGreatDoor.Dr
open Go.RowKit Go.Sort C6

/-- the search for the next certain unit: the best one of the first i -/
def BI (N : Nat) (x : Nat → Int) (od : List Nat) (k : Nat) (M : Int) (i : Nat) (b : Int) : Prop :=
  (b = -1 ∨ ∃ j : Nat, b = (j : Int) ∧ j < N) ∧
  (T x od k ≤ x (od.getD k 0) * M → (i ≤ od.getD k 0 → b = -1 ∨ ∃ j : Nat, b = (j : Int) ∧ x j < x (od.getD k 0)) ∧ (od.getD k 0 < i → b = (od.getD k 0 : Int))) ∧
  (¬ T x od k ≤ x (od.getD k 0) * M → b = -1)
theorem BI.zero (N : Nat) (x : Nat → Int) (od : List Nat) (k : Nat) (M : Int) : BI N x od k M 0 (-1) := ⟨.inl rfl, fun _ => ⟨fun _ => .inl rfl, fun h => by omega⟩, fun _ => rfl⟩
theorem BI.skip {N : Nat} {x : Nat → Int} {od : List Nat} {k : Nat} {M : Int} {i : Nat} {b : Int} (h : BI N x od k M i b) (ho : Ord N x od) (hk : k < N) (hi : i ∈ od.take k ∨ x i * M < T x od k) : BI N x od k M (i + 1) b := by
  refine ⟨h.1, fun he => ?_, h.2.2⟩
  have hne : i ≠ od.getD k 0 := by
    rintro e
    rcases hi with hi | hi
    · rw [e] at hi; exact ho.next hk hi
    · rw [e] at hi; omega
  obtain ⟨h1, h2⟩ := h.2.1 he
  refine ⟨fun hl => h1 (Nat.le_of_succ_le hl), fun hl => h2 ?_⟩
  clear h1 h2 h
  omega
theorem BI.elig {N : Nat} {x : Nat → Int} {od : List Nat} {k : Nat} {M : Int} {i : Nat} (ho : Ord N x od) (hk : k < N) (hM : 0 ≤ M) (hi : i < N) (hn : i ∉ od.take k) (he : T x od k ≤ x i * M) : T x od k ≤ x (od.getD k 0) * M :=
  Int.le_trans he (Int.mul_le_mul_of_nonneg_right (ho.best hk hi hn).1 hM)
theorem BI.take {N : Nat} {x : Nat → Int} {od : List Nat} {k : Nat} {M : Int} {i : Nat} {b : Int} (h : BI N x od k M i b) (ho : Ord N x od) (hk : k < N) (hM : 0 ≤ M) (hi : i < N) (hn : i ∉ od.take k) (he : T x od k ≤ x i * M) (hb : b = -1 ∨ ∃ j : Nat, b = (j : Int) ∧ x j < x i) : BI N x od k M (i + 1) (i : Int) := by
  have hE := BI.elig ho hk hM hi hn he
  obtain ⟨h1, h2⟩ := h.2.1 hE
  have hbest := ho.best hk hi hn
  have hle : i ≤ od.getD k 0 := by
    by_cases e : i ≤ od.getD k 0
    · exact e
    · exfalso
      have e2 := h2 (by omega)
      rcases hb with hb | ⟨j, hb, hx⟩
      · omega
      · have : j = od.getD k 0 := by omega
        rw [this] at hx
        omega
  refine ⟨.inr ⟨i, rfl, hi⟩, fun _ => ⟨fun hl => .inr ⟨i, rfl, hbest.2 hl⟩, fun hl => ?_⟩, fun h => absurd hE h⟩
  have e : i = od.getD k 0 := by clear h1 h2 hb h; omega
  exact congrArg Int.ofNat e
theorem BI.keep {N : Nat} {x : Nat → Int} {od : List Nat} {k : Nat} {M : Int} {i j : Nat} (h : BI N x od k M i (j : Int)) (ho : Ord N x od) (hk : k < N) (hM : 0 ≤ M) (hi : i < N) (hn : i ∉ od.take k) (he : T x od k ≤ x i * M) (hb : x i ≤ x j) : BI N x od k M (i + 1) (j : Int) := by
  have hE := BI.elig ho hk hM hi hn he
  obtain ⟨h1, h2⟩ := h.2.1 hE
  refine ⟨h.1, fun _ => ⟨fun hl => h1 (by omega), fun hl => ?_⟩, fun h => absurd hE h⟩
  by_cases e : od.getD k 0 < i
  · exact h2 e
  · have e2 : i = od.getD k 0 := by omega
    rcases h1 (by omega) with h | ⟨j', h, hx⟩
    · omega
    · have : j' = j := by omega
      rw [this, ← e2] at hx
      omega
theorem BI.last {N : Nat} {x : Nat → Int} {od : List Nat} {k : Nat} {M : Int} {b : Int} (h : BI N x od k M N b) (ho : Ord N x od) (hk : k < N) : (T x od k ≤ x (od.getD k 0) * M → b = (od.getD k 0 : Int)) ∧ (¬ T x od k ≤ x (od.getD k 0) * M → b = -1) :=
  ⟨fun he => (h.2.1 he).2 (ho.get hk), h.2.2⟩
/-- which units are certain, as a row -/
def bl (od : List Nat) (k N : Nat) : List Value := (List.range N).map (fun (i : Nat) => Value.bool (decide (i ∈ od.take k)))
theorem bl_len (od : List Nat) (k N : Nat) : (bl od k N).length = N := by simp [bl]
theorem bl_zero (od : List Nat) (N : Nat) : bl od 0 N = List.replicate N (Value.bool false) := by
  apply List.ext_getElem
  · simp [bl]
  · intro i h1 h2; simp [bl]
theorem bl_at (od : List Nat) (k N i : Nat) (hi : i < N) : (bl od k N)[i]? = some (Value.bool (decide (i ∈ od.take k))) := by simp [bl, hi]
theorem bl_set (od : List Nat) (k N : Nat) (hk : k < od.length) : (bl od k N).set (od.getD k 0) (.bool true) = bl od (k + 1) N := by
  apply List.ext_getElem
  · simp [bl]
  · intro i h1 h2
    have hi : i < N := by simpa [bl] using h2
    rw [List.getElem_set]
    by_cases e : od.getD k 0 = i
    · rw [if_pos e]
      simp only [bl, List.getElem_map, List.getElem_range]
      rw [take_getD od hk, e]
      simp
    · rw [if_neg e]
      simp only [bl, List.getElem_map, List.getElem_range]
      have : (i ∈ od.take (k + 1)) = (i ∈ od.take k) := by
        rw [take_getD od hk]
        apply propext
        have e' : i ≠ od.getD k 0 := Ne.symm e
        simp only [List.mem_append, List.mem_singleton]
        exact ⟨fun h => h.elim id (fun h => absurd h e'), .inl⟩
      rw [decide_eq_decide.2 (iff_of_eq this)]
theorem infoBool : (Tryz.prog.info? 4).map (fun i => (i.zero, i.size, i.bytes)) = some (some (.bool false), 1, 1) := by kernel_rfl
end Go.Proofs.YtmhjimcdiglpcaaGreatDoor.Dr
/- The reference's certain units. -/
namespace Go.Proofs.YtmhjimcdiglpcaaGreatDoor.Dr
open Go.RowKit Go.Sort C6

def CtPost (x : Nat → Int) (od : List Nat) (m K N : Nat) (w : World) (e : Ending) (w' : World) : Prop := ∃ g, e = .returned (.tuple #[.slice (some ⟨g, 0, none⟩) N N, .int .i64 (T x od K), .int .i64 ((m : Int) - (K : Int))]) ∧ w'.ownsRow w.heap.size 4 1 (.slice (some ⟨g, 0, none⟩) N N) N (bl od K N) ∧ Below w.heap.size w w'

end Go.Proofs.YtmhjimcdiglpcaaGreatDoor.Dr
/- The reference's Inclusion. -/
namespace Go.Proofs.YtmhjimcdiglpcaaGreatDoor.Dr
open Go.RowKit Go.Sort C6

theorem Inc.snoc {w : World} {N : Nat} {rs : List RV} {Q : Nat → Rat} {r : RV} (h : Inc w N rs (fun u => some (Q u))) (hr : CQ 0 w r.s r.ao r.n r.ca r.bo r.m r.cb (Q N) 2) : Inc w (N + 1) (rs ++ [r]) (fun u => some (Q u)) := by
  refine ⟨by rw [List.length_append, h.1]; rfl, fun u hu q hq => ?_⟩
  by_cases e : u < N
  · rw [getD_snoc_lt _ _ _ _ (by rw [h.1]; exact e)]
    exact h.2 u e q hq
  · have e2 : u = N := by omega
    subst e2
    have e3 : (rs ++ [r]).getD u RV.nil = r := by have := getD_snoc_eq rs r RV.nil; rwa [h.1] at this
    rw [e3, ← Option.some.inj hq]
    exact hr
theorem inc_set {w : World} {N g : Nat} {rs : List RV} {P : Nat → Option Rat} {cur : Array Value} (h : Inc w N rs P) (hg : w.heap[g]? = some (.cells cur 32 (0, 0))) (j : Nat) (v : Value) : Inc (w.setCell ⟨g, j, none⟩ v) N rs P ∧ ∃ cur', (w.setCell ⟨g, j, none⟩ v).heap[g]? = some (.cells cur' 32 (0, 0)) := by
  refine ⟨⟨h.1, fun u hu q hq => ?_⟩, ⟨_, by simp [World.setCell, Array.getElem?_modify, hg]; rfl⟩⟩
  obtain ⟨h1, h2, h3, h4, h5, h6⟩ := h.2 u hu q hq
  exact ⟨h1, h2, h3, h4.setne hg (by decide), h5.setne hg (by decide), h6⟩
theorem RdN.nil (w : World) (Q : Nat → Rat) : RdN w none 0 0 Q := ⟨[], rfl, ⟨by simp, by omega, .inl ⟨rfl, fun _ => rfl⟩⟩, rfl, fun u hu => by omega⟩

end Go.Proofs.YtmhjimcdiglpcaaGreatDoor.Dr
