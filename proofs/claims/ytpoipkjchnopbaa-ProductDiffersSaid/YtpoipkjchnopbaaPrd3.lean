import Derived.Test.YtpoipkjchnopbaaPrd2
/- Layer 9: attributes sorted by slices.SortStableFunc; package product's Normalize. -/
namespace Go.Proofs.Ytpoipkjchnopbaa.P9
open Go.RowKit Go.Sort C6

set_option maxHeartbeats 1000000 in
theorem closure_v (x y : Atr) (W : World) : Calls Try.prog 21 #[.agg #[.string x.1, .string x.2], .agg #[.string y.1, .string y.2]] W fun e w' => e = .returned (.int .i64 (Lib.compareBytes x.1.data.toList y.1.data.toList)) ∧ ∃ q os', w' = grow (W.drewN q) os' := by
  have hcon := fun W' => Try.strings_Compare x.1 y.1 W'
  generalize Lib.compareBytes x.1.data.toList y.1.data.toList = r at hcon ⊢
  go_enter Try.func21, Try.ntmps21
  go_wp2_with (go_at_call 22; refine (hcon _).mono ?_; rintro e w' ⟨rfl, rfl⟩)
  go_ret
  exact ⟨rfl, 0, _, by rw [alloc_eq_grow, alloc_eq_grow, grow_grow]; rfl⟩
theorem cmpLays (blk off size : Nat) (w : World) : CmpLays Try.prog 21 #[] encA 2 (fun x y : Atr => Lib.compareBytes x.1.data.toList y.1.data.toList) blk off size w :=
  fun _ _ _ _ x y => closure_v x y _
theorem lt_lss (x y : Atr) : ltOf (fun x y : Atr => Lib.compareBytes x.1.data.toList y.1.data.toList) x y = lss x y := by
  unfold ltOf lss nmL
  exact decide_eq_decide.2 (cmp_neg _ _)

/-- the row of a slice of one's own, sorted in place -/
theorem inSort_v {base n : Nat} {l : List Atr} {g cap : Nat} (w : World) (h : w.ownsRow base 42 2 (.slice (some ⟨g, 0, none⟩) n cap) n (atv l)) (hn : n ≤ 19) :
    Calls Try.prog 42 #[.slice (some ⟨g, 0, none⟩) n cap, .int .i64 0, .int .i64 n, .func (.func 21) #[] #[]] w fun e w' => e = .returned (.tuple #[]) ∧ w'.ownsRow base 42 2 (.slice (some ⟨g, 0, none⟩) n cap) n (atv (isort l)) ∧ w.grownBy w' (some g) := by
  have hlen : l.length = n := by have := h.1; rw [atv_length] at this; omega
  have eg : ∀ args w, (callFunc 21 args).run Try.prog w = .ok (.enter 21 args) w := Go.Proofs.enters_of Try.func21 (by kernel_rfl) rfl
  have hc := Try.insSort 2 Try.isAgg42 Try.sizeOf42 encA (fun _ => rfl) (fun x v hv => by simp [encA] at hv; rcases hv with rfl | rfl <;> rfl) (fun x y : Atr => Lib.compareBytes x.1.data.toList y.1.data.toList) 21 #[] g 0 cap 0 l.toArray.size l.toArray w eg (cmpLays g 0 _ w) (holds_row h) (h.lt g rfl).2 (Nat.zero_le _) (Nat.le_refl _) (by simp; omega)
  have e1 : l.toArray.size = n := by simpa using hlen
  rw [e1] at hc
  refine hc.mono ?_
  rintro e w' ⟨rfl, q, os, rfl⟩
  have e2 : Sort.insertionSort (ltOf fun x y : Atr => Lib.compareBytes x.1.data.toList y.1.data.toList) l.toArray 0 n = (isort l).toArray := by
    rw [← hlen]
    exact sort_isort _ lt_lss l
  rw [e2]
  obtain ⟨r1, r2⟩ := row_sorted (q := q) (os := os) h (isort_length l)
  exact ⟨rfl, r1, r2⟩

/-- what a sort leaves: the same slice owns the sorted list -/
def SPost (base : Nat) (l : List Atr) (v : Value) (w : World) (e : Ending) (w' : World) : Prop := e = .returned (.tuple #[]) ∧ w'.ownsRow base 42 2 v l.length (atv (isort l)) ∧ w.grownBy w' v.ownBlock

set_option maxHeartbeats 4000000 in
theorem inNil_v (w : World) (base : Nat) : Calls Try.prog 42 #[.slice none 0 0, .int .i64 0, .int .i64 0, .func (.func 21) #[] #[]] w (SPost base ([] : List Atr) (.slice none 0 0) w) := by
  have hfin : Hid (SPost base ([] : List Atr) (.slice none 0 0) w (.returned (.tuple #[])) w) := ⟨rfl, World.ownsRow_nil _ _ _ _, ⟨rfl, rfl, rfl, Nat.le_refl _, fun _ _ _ => rfl⟩⟩
  go_enter Try.func42, Try.ntmps42
  go_wp2_with fail
  go_loopw [8] (fun s8 wr => s8 = .int .i64 1 ∧ wr = w) (fun _ _ => 0)
  case atStart => exact ⟨rfl, rfl⟩
  case round =>
    obtain ⟨rfl, rfl⟩ := hrel
    go_wp2_with fail
    go_end0
    exact hfin.out
set_option maxHeartbeats 4000000 in
theorem cmpStable_v {base n cap : Nat} {l : List Atr} {a : Option Addr} (w : World) (hn : n ≤ 19) (hC : Calls Try.prog 42 #[.slice a n cap, .int .i64 0, .int .i64 n, .func (.func 21) #[] #[]] w (SPost base l (.slice a n cap) w)) :
    Calls Try.prog 32 #[.slice a n cap, .int .i64 n, .func (.func 21) #[] #[]] w (SPost base l (.slice a n cap) w) := by
  have HC := Lib.hid hC
  have hn2 : ¬ (20 : Int) ≤ (n : Int) := by omega
  have hn3 : ¬ (20 : Int) < (n : Int) := by omega
  clear hC
  go_enter Try.func32, Try.ntmps32
  go_wp2_with fail
  go_loopw [7, 8] (fun s7 s8 wr => s7 = .int .i64 0 ∧ s8 = .int .i64 20 ∧ wr = w) (fun _ _ _ => 0)
  case atStart => exact ⟨rfl, rfl, rfl⟩
  case round =>
    obtain ⟨rfl, rfl, rfl⟩ := hrel
    go_wp2_with fail
    refine HC.out.mono ?_; rintro e w2 ⟨rfl, h2, h3⟩
    have H2 : Hid (SPost base l (.slice a n cap) wr (.returned (.tuple #[])) w2) := ⟨rfl, h2, h3⟩
    clear h2 h3
    go_wp2_with fail
    go_loopw [6] (fun s6 wr => s6 = .int .i64 20 ∧ wr = w2) (fun _ _ => 0)
    case atStart => exact ⟨rfl, rfl⟩
    case round =>
      obtain ⟨rfl, rfl⟩ := hrel
      go_wp2_with fail
      go_end0
      exact H2.out
set_option maxHeartbeats 4000000 in
theorem stable_v {base : Nat} {l : List Atr} {n cap : Nat} {a : Option Addr} (w : World) (h : w.ownsRow base 42 2 (.slice a n cap) n (atv l)) (hn : n ≤ 19) :
    Calls Try.prog 20 #[.slice a n cap, .func (.func 21) #[] #[]] w (SPost base l (.slice a n cap) w) := by
  have hlen : l.length = n := by have := h.1; rw [atv_length] at this; omega
  have hcap : n ≤ cap ∧ cap ≤ 9223372036854775807 := by
    rcases h.2 with ⟨e, h0⟩ | ⟨g, cap', cur, e, _, _, hnc, hcm, _, _⟩
    · cases e; omega
    · cases e; unfold maxLen at hcm; omega
  have C : Hid (Calls Try.prog 42 #[.slice a n cap, .int .i64 0, .int .i64 n, .func (.func 21) #[] #[]] w (SPost base l (.slice a n cap) w)) := by
    rcases h.2 with ⟨e, h0⟩ | ⟨g, cap', cur, e, _, _, hnc, hcm, _, _⟩
    · cases e
      have : l = [] := List.eq_nil_of_length_eq_zero (by omega)
      subst this
      exact inNil_v w base
    · cases e
      refine (inSort_v w h hn).mono ?_
      rintro e w' ⟨rfl, h1, h2⟩
      exact ⟨rfl, by rw [hlen]; exact h1, h2⟩
  have D := Lib.hid (cmpStable_v w hn C.out)
  obtain ⟨hc1, hc2⟩ := hcap
  clear h C hlen
  go_enter Try.func20, Try.ntmps20
  go_wp2_with fail
  refine D.out.mono ?_; rintro e w2 ⟨rfl, h2, h3⟩
  go_wp2_with fail
  go_end0
  exact ⟨rfl, h2, h3⟩

theorem own_mono' {w : World} {base base' n size : Nat} {e : TypeId} {v : Value} {xs : List Value} (h : w.ownsRow base e size v n xs) (hb : base' ≤ base) : w.ownsRow base' e size v n xs :=
  ⟨h.1, h.2.imp id fun ⟨g, cap, cur, hv, h1, h2⟩ => ⟨g, cap, cur, hv, Nat.le_trans hb h1, h2⟩⟩
/-- what Normalize returns: the product, its attributes sorted in new memory -/
def NPost (p : Pd) (l : List Atr) (w : World) (e : Ending) (w' : World) : Prop := ∃ a c, e = .returned (.agg #[.string p.id, .string p.co, .string p.br, .int .i64 p.d, .int .i64 p.c, .int .i64 p.a, .slice a l.length c]) ∧ w'.ownsRow (w.heap.size + 2) 42 2 (.slice a l.length c) l.length (atv (isort l)) ∧ Below w.heap.size w w'

set_option maxHeartbeats 8000000 in
set_option maxRecDepth 100000 in
theorem Normalize_v (p : Pd) (ao : Option Addr) (cap : Nat) (l : List Atr) (w : World) (h : RdA w ao cap l) (hl : l.length ≤ 19) :
    Calls Try.prog 8 #[.agg #[.string p.id, .string p.co, .string p.br, .int .i64 p.d, .int .i64 p.c, .int .i64 p.a, .slice ao l.length cap]] w (NPost p l w) := by
  obtain ⟨n, hn⟩ : ∃ n, n = l.length := ⟨_, rfl⟩
  obtain ⟨W2, hW2⟩ : ∃ W, W = (w.alloc (.cells #[.string p.id, .string p.co, .string p.br, .int .i64 p.d, .int .i64 p.c, .int .i64 p.a, .slice ao n cap] 26)).alloc (.cells #[.string ⟨#[]⟩, .string ⟨#[]⟩, .string ⟨#[]⟩, .int .i64 0, .int .i64 0, .int .i64 0, .slice none 0 0] 26) := ⟨_, rfl⟩
  obtain ⟨P2, Q2, B2, s2⟩ := boxes2 w p (.slice ao n cap) W2 hW2
  have CP := Lib.hid (copied_v p ao cap l W2 (h.below B2) (by omega))
  unfold Hid at CP
  rw [← hn] at CP
  have CP2 := Lib.hid CP
  have HP2 := Lib.hid P2
  have HQ2 := Lib.hid Q2
  have HB2 := Lib.hid B2
  have HN := Lib.hid hn
  have HS2 := Lib.hid s2
  obtain ⟨g, hg⟩ : ∃ g, g = w.heap.size := ⟨_, rfl⟩
  have HG := Lib.hid hg
  unfold NPost
  rw [← hn]
  have hn19 : n ≤ 19 := by omega
  clear h hl hn P2 Q2 B2 s2 CP
  go_enter Try.func8, Try.ntmps8
  go_wp2_with fail
  rw [← hW2]
  refine CP2.out.mono ?_; rintro e w3 ⟨v, rfl, hown, hb⟩
  obtain ⟨a3, c3, rfl⟩ := of_row_n hown
  have P3 := Lib.hid (HP2.out.below hb)
  have Q3 := Lib.hid (HQ2.out.below hb)
  have B3 := Lib.hid (keep HB2.out hb)
  have O3 := Lib.hid hown
  have hgl := P3.out.lt
  obtain ⟨k0, k1, k2, k3, k4, k5, k6⟩ := P3.out.cells
  obtain ⟨f0, f1, f2, f3, f4, f5, f6⟩ := P3.out.fz
  unfold pv
  clear hown hb
  go_wp2_with fail
  have k1' := O3.out.kept (set7_gb w3 w.heap.size p (.slice a3 n c3)) (row_ne O3.out (by rw [HS2.out]; omega))
  have p1' : PB (set7 w3 w.heap.size p (.slice a3 n c3)) w.heap.size p (.slice a3 n c3) := set7_heap _ _ _ _ P3.out
  have q1' : PB (set7 w3 w.heap.size p (.slice a3 n c3)) (w.heap.size + 1) Pd.zero (.slice none 0 0) := Q3.out.grown (set7_gb _ _ _ _) (by simp)
  have b1' : Below w.heap.size w (set7 w3 w.heap.size p (.slice a3 n c3)) := set7_below B3.out (Nat.le_refl _) hgl _ _
  refine (stable_v (set7 w3 w.heap.size p (.slice a3 n c3)) k1' hn19).mono ?_; rintro e w4 ⟨rfl, h4, g4⟩
  have hge : ∀ k, Value.ownBlock (.slice a3 n c3) = some k → w.heap.size + 4 ≤ k := fun k e => by have := (k1'.lt k e).1; rw [HS2.out] at this; omega
  have P4 : Hid (PB w4 w.heap.size p (.slice a3 n c3)) := p1'.grown g4 (fun e => by have := hge _ e.symm; omega)
  have Q4 : Hid (PB w4 (w.heap.size + 1) Pd.zero (.slice none 0 0)) := q1'.grown g4 (fun e => by have := hge _ e.symm; omega)
  have B4 : Hid (Below w.heap.size w w4) := b1'.grown g4 b1'.size (fun k e => by have := hge k e; omega)
  have hL : l.length = n := HN.out.symm
  rw [hL] at h4
  have O4 := Lib.hid h4
  obtain ⟨k0, k1, k2, k3, k4, k5, k6⟩ := P4.out.cells
  obtain ⟨f0, f1, f2, f3, f4, f5, f6⟩ := P4.out.fz
  obtain ⟨q0, q1, q2, q3, q4, q5, q6⟩ := Q4.out.fz
  obtain ⟨r0, r1, r2, r3, r4, r5, r6⟩ := Q4.out.cells
  clear k1' p1' q1' b1' h4 g4 hge hL
  go_wp2_with fail
  have o5 := O4.out.kept (set7_gb w4 (w.heap.size + 1) p (.slice a3 n c3)) (row_ne O4.out (by rw [HS2.out]; omega))
  have b5 : Below w.heap.size w (set7 w4 (w.heap.size + 1) p (.slice a3 n c3)) := set7_below B4.out (by omega) Q4.out.lt _ _
  refine bodyPost_ret (v := .agg #[.string p.id, .string p.co, .string p.br, .int .i64 p.d, .int .i64 p.c, .int .i64 p.a, .slice a3 n c3]) (by simp [results, Try.results8, go_sem, r0, r1, r2, r3, r4, r5, r6]) rfl ?_
  exact ⟨a3, c3, rfl, own_mono' o5 (by rw [HS2.out]; omega), b5⟩
end Go.Proofs.Ytpoipkjchnopbaa.P9
