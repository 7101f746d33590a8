import Derived.Test.YtmhjimcdiglpcaaGreatDoorDrA
import Derived.Test.YtmhjimcdiglpcaaGreatDoorEstA
import Derived.Test.YtmhjimcdiglpcaaGreatDoorRatsD
/- A draw: which part of the interval a length is; rows of numbers that are set one by one. -/
namespace Go.Proofs.YtmhjimcdiglpcaaGreatDoor.Dr
open Go.RowKit Go.Sort C6

/-- a quotient of integers -/
def fq (a b : Int) : Rat := rq (decide (a < 0) != decide (b < 0)) a.natAbs b.natAbs
theorem Fraction_f (a b : Int) (ha0 : -9223372036854775808 ≤ a) (ha1 : a ≤ 9223372036854775807) (hb0 : 1 ≤ b) (hb1 : b ≤ 9223372036854775807) (w : World) :
    Calls Tryz.prog 44 #[.int .i64 a, .int .i64 b] w (MakesE (fq a b) 2 w) := Fraction_q a b ha0 ha1 (by omega) hb1 (by omega) w

set_option maxHeartbeats 8000000 in
set_option maxRecDepth 100000 in
theorem part_v (c p : Value) (m i a : Int) (hi : 1 ≤ i ∧ i ≤ 4611686018427387904) (ha : 0 ≤ a ∧ a ≤ 4611686018427387904) (w : World) :
    Calls Tryz.prog 20 #[.agg #[c, p, .int .i64 m, .int .i64 i], .int .i64 a] w (MakesQ (fq a i) 2 w) := by
  obtain ⟨W1, hW1⟩ : ∃ W, W = w.alloc (.cells #[c, p, .int .i64 m, .int .i64 i] 50) := ⟨_, rfl⟩
  obtain ⟨W2, hW2⟩ : ∃ W, W = W1.alloc (.cells #[.bool false, .slice none 0 0, .slice none 0 0] 32) := ⟨_, rfl⟩
  have b1 : Below w.heap.size w W1 := by rw [hW1]; exact below_new _ _
  have b2 : Below W1.heap.size W1 W2 := by rw [hW2]; exact below_new _ _
  have s1 : W1.heap.size = w.heap.size + 1 := by rw [hW1]; exact World.size_alloc _ _
  obtain ⟨g, hg⟩ : ∃ g, g = w.heap.size + 1 := ⟨_, rfl⟩
  have X2 : Hid (W2.heap[g]? = some (.cells #[.bool false, .slice none 0 0, .slice none 0 0] 32 (0, 0))) := by rw [hg, ← s1, hW2]; exact heap_alloc_new _ _
  have d1 : Dc W1 w.heap.size c p m i := by rw [hW1]; exact cells4d _ _ _ _ _
  have d2 : Dc W2 w.heap.size c p m i := (b2.block _ d1.lt).trans d1
  have HB2 : Hid (Below w.heap.size w W2) := b1.trans (b2.mono b1.size)
  have S2 : Hid (W2.heap.size = g + 1) := by unfold Hid; rw [hW2, World.size_alloc, s1, hg]
  have FR : Hid (∀ w', Calls Tryz.prog 44 #[.int .i64 a, .int .i64 i] w' (MakesE (fq a i) 2 w')) := fun w' => Fraction_f a i (by omega) (by omega) hi.1 (by omega) w'
  have hmx : max i 1 = i := by omega
  obtain ⟨q0, q1, q2, q3, _, _, _, _⟩ := d2.cells
  obtain ⟨Q, hQ⟩ : ∃ Q, Q = fq a i := ⟨_, rfl⟩
  unfold Hid at FR
  rw [← hQ] at FR ⊢
  have FR := Lib.hid FR
  have HGW : Hid (w.heap.size < g) := by unfold Hid; omega
  clear b1 b2 s1 d1 d2 hQ
  go_enter Tryz.func20, Tryz.ntmps20
  go_wp2_with fail
  rw [← hg, ← hW1, ← hW2]
  clear hW1 hW2 hg
  refine (FR.out _).mono ?_; rintro e W3 ⟨s3, a3, n3, c3, o3, m3, d3, rfl, cq3, b3⟩
  have n4 := below_new W3 (.cells #[.bool s3, .slice a3 n3 c3, .slice o3 m3 d3] 32)
  have y4 := heap_alloc_new W3 (.cells #[.bool s3, .slice a3 n3 c3, .slice o3 m3 d3] 32)
  have x4 := carry (carry X2.out b3) n4
  have B4 := (HB2.out.trans (b3.mono HB2.out.size)).trans (n4.mono (Nat.le_trans HB2.out.size b3.size))
  have cq4 := cq3.below n4
  obtain ⟨W4, hW4⟩ : ∃ W, W = W3.alloc (.cells #[.bool s3, .slice a3 n3 c3, .slice o3 m3 d3] 32) := ⟨_, rfl⟩
  rw [← hW4] at y4 x4 B4 cq4
  obtain ⟨p0, p1, p2, z0, z1, z2⟩ := at_block x4
  obtain ⟨f0, f1, f2, _⟩ := at_block y4
  have C4 := Lib.hid cq4
  have HB4 := Lib.hid B4
  clear n4 b3 cq3 cq4 x4 y4 B4 q0 q1 q2 q3
  go_upto_region 2 with fail
  rw [← hW4]
  clear hW4
  go_wp2_with fail
  refine bodyPost_ret (v := .agg #[.bool s3, .slice a3 n3 c3, .slice o3 m3 d3]) (by simp [results, Tryz.results20, go_sem, p0, p1, p2]) rfl ?_
  exact MakesQ.lift C4.out rfl (by rw [S2.out]; omega) (Nat.le_of_lt HGW.out) HB4.out _ _ _

/-- a row of numbers, one of them set -/
theorem rvs_set (r : RV) : ∀ (rs : List RV) (u : Nat), (((rvs rs).set (u * 3) (.bool r.s)).set (u * 3 + 1) (.slice r.ao r.n r.ca)).set (u * 3 + 2) (.slice r.bo r.m r.cb) = rvs (rs.set u r)
  | [], u => by simp [rvs]
  | r0 :: rs, u => by
    have e : ∀ (q : RV) (l : List RV), rvs (q :: l) = .bool q.s :: .slice q.ao q.n q.ca :: .slice q.bo q.m q.cb :: rvs l := fun q l => rfl
    cases u with
    | zero => simp [e]
    | succ u =>
      have ih := rvs_set r rs u
      rw [show (u + 1) * 3 = u * 3 + 3 by omega, show u * 3 + 3 + 1 = u * 3 + 1 + 3 by omega, show u * 3 + 3 + 2 = u * 3 + 2 + 3 by omega]
      simp only [e, List.set_cons_succ]
      rw [ih]
theorem made_rvs : ∀ N : Nat, (madeCells (Value.agg #[.bool false, .slice none 0 0, .slice none 0 0]).cells (N * 3)).toList = rvs (List.replicate N RV.nil)
  | 0 => by simp [madeCells, rvs]
  | N + 1 => by
    have ih := made_rvs N
    unfold madeCells at ih ⊢
    rw [show (N + 1) * 3 = N * 3 + 1 + 1 + 1 by omega]
    simp only [Array.toList_map, Array.toList_range] at ih ⊢
    rw [List.range_succ, List.range_succ, List.range_succ, List.map_append, List.map_append, List.map_append, ih, List.replicate_succ', show rvs (List.replicate N RV.nil ++ [RV.nil]) = rvs (List.replicate N RV.nil) ++ RV.nil.vals by simp [rvs], List.append_assoc, List.append_assoc]
    congr 1
    have h0 : N * 3 % 3 = 0 := by omega
    have h1 : (N * 3 + 1) % 3 = 1 := by omega
    have h2 : (N * 3 + 1 + 1) % 3 = 2 := by omega
    simp [Value.cells, h0, h1, h2, RV.vals, RV.nil]
/-- some numbers of a row are known -/
def Inc (w : World) (N : Nat) (rs : List RV) (P : Nat → Option Rat) : Prop := rs.length = N ∧ ∀ u, u < N → ∀ q, P u = some q → CQ 0 w (rs.getD u RV.nil).s (rs.getD u RV.nil).ao (rs.getD u RV.nil).n (rs.getD u RV.nil).ca (rs.getD u RV.nil).bo (rs.getD u RV.nil).m (rs.getD u RV.nil).cb q 2
theorem Inc.below {w w' : World} {N : Nat} {rs : List RV} {P : Nat → Option Rat} (h : Inc w N rs P) (b : Below w.heap.size w w') : Inc w' N rs P := ⟨h.1, fun u hu q hq => (h.2 u hu q hq).below b⟩
theorem Inc.keep {w w' : World} {N : Nat} {rs : List RV} {P : Nat → Option Rat} {base l : Nat} {v : Value} {vs : List Value} (h : Inc w N rs P) (ho : w.ownsRow base 32 3 v l vs) (g : w.grownBy w' v.ownBlock) : Inc w' N rs P := ⟨h.1, fun u hu q hq => (h.2 u hu q hq).keepRow3 ho g⟩
theorem Inc.put {w : World} {N : Nat} {rs : List RV} {P P' : Nat → Option Rat} (h : Inc w N rs P) {u : Nat} {r : RV} {q : Rat} (hr : CQ 0 w r.s r.ao r.n r.ca r.bo r.m r.cb q 2) (hP : ∀ v q', P' v = some q' → (v = u ∧ q' = q) ∨ (v ≠ u ∧ P v = some q')) : Inc w N (rs.set u r) P' := by
  refine ⟨by rw [List.length_set, h.1], fun v hv q' hq => ?_⟩
  rcases hP v q' hq with ⟨rfl, rfl⟩ | ⟨hne, hp⟩
  · have : (rs.set v r).getD v RV.nil = r := by
      have : v < rs.length := by rw [h.1]; exact hv
      simp [List.getD, this]
    rw [this]; exact hr
  · have : (rs.set u r).getD v RV.nil = rs.getD v RV.nil := by
      simp [List.getD, List.getElem?_set_ne (Ne.symm hne)]
    rw [this]; exact h.2 v hv q' hp
/-- one number of a row of one's own is set -/
theorem row_set3 {w : World} {base g n cap : Nat} {rs : List RV} (h : w.ownsRow base 32 3 (.slice (some ⟨g, 0, none⟩) n cap) n (rvs rs)) (u : Nat) (r : RV) :
    (((w.setCell ⟨g, u * 3, none⟩ (.bool r.s)).setCell ⟨g, u * 3 + 1, none⟩ (.slice r.ao r.n r.ca)).setCell ⟨g, u * 3 + 2, none⟩ (.slice r.bo r.m r.cb)).ownsRow base 32 3 (.slice (some ⟨g, 0, none⟩) n cap) n (rvs (rs.set u r)) ∧
    w.grownBy (((w.setCell ⟨g, u * 3, none⟩ (.bool r.s)).setCell ⟨g, u * 3 + 1, none⟩ (.slice r.ao r.n r.ca)).setCell ⟨g, u * 3 + 2, none⟩ (.slice r.bo r.m r.cb)) (some g) := by
  obtain ⟨h1, g1⟩ := h.stored (u * 3) (.bool r.s)
  obtain ⟨h2, g2⟩ := h1.stored (u * 3 + 1) (.slice r.ao r.n r.ca)
  obtain ⟨h3, g3⟩ := h2.stored (u * 3 + 2) (.slice r.bo r.m r.cb)
  rw [rvs_set] at h3
  exact ⟨h3, gb_trans (gb_trans (gbs _ _ _ _) (gbs _ _ _ _)) (gbs _ _ _ _)⟩
end Go.Proofs.YtmhjimcdiglpcaaGreatDoor.Dr
/- sample.Inclusion: the probabilities of a draw. -/
namespace Go.Proofs.YtmhjimcdiglpcaaGreatDoor.Dr
open Go.RowKit Go.Sort C6 SN

/-- stands through worlds whose block g may turn -/
def StG (g : Nat) (p : Value → World → Prop) : Prop := ∀ v w w', p v w → w.grownBy w' (some g) → p v w'
theorem StG.val (g : Nat) (x : Value) : StG g (fun v _ => v = x) := fun _ _ _ h _ => h
theorem StG.triv (g : Nat) : StG g (fun _ _ => True) := fun _ _ _ h _ => h
def kCQ (B : Nat) (q : Rat) : Value → World → Prop := fun v w => ∃ s a n c o m d, v = .agg #[.bool s, .slice a n c, .slice o m d] ∧ CQ B w s a n c o m d q 2
theorem cq_gbl {B g : Nat} {w w' : World} {s : Bool} {ao : Option Addr} {n ca : Nat} {bo : Option Addr} {m cb : Nat} {q : Rat} {k : Nat} (h : CQ B w s ao n ca bo m cb q k) (hB : g < B) (b : w.grownBy w' (some g)) : CQ B w' s ao n ca bo m cb q k := by
  obtain ⟨h1, h2, h3, h4, h5, h6⟩ := h
  have key : ∀ {ao : Option Addr} {ca : Nat} {xs : List Nat}, Fr B w ao ca xs → Fr B w' ao ca xs := fun hf => hf.grown b (fun a e q => by
    rcases hf.2.2.2 with ⟨h, _⟩ | ⟨b, h, hb, _⟩
    · rw [e] at h; cases h
    · rw [e] at h; cases h
      have := Option.some.inj q
      simp at this; omega)
  exact ⟨h1, h2, h3, key h4, key h5, h6⟩
theorem StG.cq {g B : Nat} (hB : g < B) (q : Rat) : StG g (kCQ B q) := by
  rintro v w w' ⟨s, a, n, c, o, m, d, rfl, h⟩ b
  exact ⟨s, a, n, c, o, m, d, rfl, cq_gbl h hB b⟩
def StGL (g : Nat) : List (Value → World → Prop) → Prop
  | [] => True
  | p :: l => StG g p ∧ StGL g l
theorem StGL.all {g : Nat} : ∀ {l : List (Value → World → Prop)}, StGL g l → ∀ p ∈ l, StG g p
  | [], _, p, hp => by simp at hp
  | q :: l, h, p, hp => by
    rcases List.mem_cons.1 hp with rfl | hp
    · exact h.1
    · exact h.2.all p hp
def LsG (l : List (Value → World → Prop)) (i : Nat) (v : Value) (w : World) : Prop := (l.getD i (fun _ _ => True)) v w
theorem LsG.ext {g : Nat} {l : List (Value → World → Prop)} (h : ∀ p ∈ l, StG g p) (i : Nat) (v : Value) (w w' : World) (hr : LsG l i v w) (hE : w.grownBy w' (some g)) : LsG l i v w' := by
  unfold LsG at hr ⊢
  rw [List.getD] at hr ⊢
  cases hg : l[i]? with
  | none => trivial
  | some p =>
    rw [hg] at hr
    exact h p (List.mem_of_getElem? hg) v w w' hr hE
theorem lays_mem {x : Nat → Int} {C : List Nat} {m : Int} (hm : 0 ≤ m ∧ m ≤ 19) {N : Nat} (hx : ∀ i, i < N → 1 ≤ x i ∧ x i ≤ 1099511627776) : ∀ i, i ≤ N → ∀ p ∈ (lays x C m i).1, p.1 < i ∧ ¬ p.1 ∈ C ∧ p.2.2 - p.2.1 = x p.1 * m ∧ 0 ≤ p.2.1 ∧ p.2.2 ≤ (i : Int) * 20890720927744 := by
  intro i
  induction i with
  | zero => intro _ p hp; simp [lays] at hp
  | succ i ih =>
    intro hi p hp
    by_cases hc : i ∈ C
    · rw [lays_in hc] at hp
      obtain ⟨h1, h2, h3, h4, h5⟩ := ih (by omega) p hp
      exact ⟨by omega, h2, h3, h4, by omega⟩
    · rw [lays_out hc] at hp
      rcases List.mem_append.1 hp with hp | hp
      · obtain ⟨h1, h2, h3, h4, h5⟩ := ih (by omega) p hp
        exact ⟨by omega, h2, h3, h4, by omega⟩
      · have hb := lays_bd (C := C) hm hx i (by omega)
        have hb2 := lays_bd (C := C) hm hx (i + 1) (by omega)
        rw [lays_out hc] at hb2
        rw [List.mem_singleton.1 hp]
        simp only at hb2 ⊢
        exact ⟨by omega, hc, by omega, hb.1, hb2.2.1⟩
theorem lays_cov {x : Nat → Int} {C : List Nat} {m : Int} : ∀ i u, u < i → ¬ u ∈ C → u ∈ (lays x C m i).1.map (fun p => p.1) := by
  intro i
  induction i with
  | zero => intro u hu; omega
  | succ i ih =>
    intro u hu hc
    by_cases hci : i ∈ C
    · rw [lays_in hci]
      exact ih u (by have : u ≠ i := fun e => hc (by rw [e]; exact hci); omega) hc
    · rw [lays_out hci, List.map_append]
      by_cases e : u = i
      · rw [e]; simp
      · exact List.mem_append_left _ (ih u (by omega) hc)
/-- the probability of a unit -/
def incQ (x : Nat → Int) (od : List Nat) (K : Nat) (M : Int) (i : Nat) : Rat := if i ∈ od.take K then 1 else fq (x i * M) (T x od K)
/-- a slice reads N numbers in their canonical form -/
def RdN (w : World) (a : Option Addr) (c N : Nat) (Q : Nat → Rat) : Prop := ∃ rs, rs.length = N ∧ RdR w a c rs ∧ Inc w N rs (fun i => some (Q i))
/-- what Inclusion gives -/
def IncPost (xs : List Int) (n : Int) (w : World) (e : Ending) (w' : World) : Prop := Below w.heap.size w w' ∧
  ((drE xs n ≠ 0 ∧ e = .returned (.tuple #[.slice none 0 0, .int .i64 (drE xs n)])) ∨
   (drE xs n = 0 ∧ ∃ (m : Nat) (od : List Nat) (K : Nat) (a : Option Addr) (c : Nat), n = (m : Int) ∧ 1 ≤ m ∧ m ≤ xs.length ∧ szs xs = true ∧ Ord xs.length (fx xs) od ∧ Cert xs.length (fx xs) od m K ∧
    e = .returned (.tuple #[.slice a xs.length c, .int .i64 0]) ∧ RdN w' a c xs.length (incQ (fx xs) od K ((m : Int) - (K : Int)))))
def P1 (od : List Nat) (k : Nat) (u : Nat) : Option Rat := if u ∈ od.take k then some 1 else none
def P2 (C : List Nat) (Q : Nat → Rat) (l : List Pc) (j : Nat) (u : Nat) : Option Rat := if u ∈ C then some 1 else if u ∈ (l.take j).map (fun p => p.1) then some (Q u) else none

set_option maxHeartbeats 16000000 in
set_option maxRecDepth 100000 in
theorem Inclusion_v (xs : List Int) (n : Int) (ao : Option Addr) (cap : Nat) (w : World) (h19 : xs.length ≤ 19) (hr : RdZ w ao cap xs) :
    Calls Tryz.prog 6 #[.slice ao xs.length cap, .int .i64 n] w (IncPost xs n w) := by
  obtain ⟨i0, hi, hz0, hz1, hz2⟩ := info_partsr infoRatio
  have ND := Lib.hid (newDraw_v xs n ao cap w h19 hr)
  obtain ⟨N, hN⟩ : ∃ N, N = xs.length := ⟨_, rfl⟩
  unfold Hid at ND
  rw [← hN] at ND h19 ⊢
  have ND := Lib.hid ND
  have HN := Lib.hid hN
  have hNI : (0 : Int) ≤ (N : Int) := by omega
  clear hN hr
  go_enter Tryz.func6, Tryz.ntmps6
  go_wp2_with fail
  refine ND.out.mono ?_; rintro e W2 ⟨b2, h2⟩
  rcases h2 with ⟨hE, rfl⟩ | ⟨hE, m, od, K, ca, pa, cc, pc, rfl, hm1, hmN, hsz, ho, hK, rfl, hz, hp⟩
  · obtain ⟨E, hEE⟩ : ∃ E, E = drE xs n := ⟨_, rfl⟩
    have fin : Hid (∀ w', Below w.heap.size w w' → IncPost xs n w (.returned (.tuple #[.slice none 0 0, .int .i64 E])) w') := fun w' hb => ⟨hb, .inl ⟨hE, by rw [hEE]⟩⟩
    rw [← hEE] at hE ⊢
    have hEb : (E != 0) = true := bne_iff_ne.2 hE
    obtain ⟨W3, hW3⟩ : ∃ W, W = W2.alloc (.cells #[.slice none 0 0, .slice none 0 0, .int .i64 0, .int .i64 0] 50) := ⟨_, rfl⟩
    have HB3 : Hid (Below w.heap.size w W3) := b2.trans (by rw [hW3]; exact (below_new _ _).mono b2.size)
    clear hEE hE b2 ND
    go_wp2_with fail
    rw [← hW3]
    refine bodyPost_ret (v := .tuple #[.slice none 0 0, .int .i64 E]) (by simp [results, Tryz.results6, go_sem]) rfl ?_
    exact fin.out _ HB3.out
  · have hKN := hK.le
    have hKm := hK.K_le ho (fun i hi => szs_at hsz hi)
    obtain ⟨M, hM⟩ : ∃ M : Int, M = (m : Int) - (K : Int) := ⟨_, rfl⟩
    obtain ⟨A, hA⟩ : ∃ A, A = T (fx xs) od K := ⟨_, rfl⟩
    obtain ⟨l, hl⟩ : ∃ l, l = (lays (fx xs) (od.take K) ((m : Int) - (K : Int)) xs.length).1 := ⟨_, rfl⟩
    obtain ⟨ln, hln⟩ : ∃ ln, ln = l.length := ⟨_, rfl⟩
    have hx : ∀ i, i < xs.length → 1 ≤ fx xs i ∧ fx xs i ≤ 1099511627776 := fun i hi => szs_at hsz hi
    have LB := Lib.hid (lays_bd (C := od.take K) (m := (m : Int) - (K : Int)) (by have := HN.out; omega) hx xs.length (Nat.le_refl _))
    have LM := Lib.hid (lays_mem (C := od.take K) (m := (m : Int) - (K : Int)) (by have := HN.out; omega) hx xs.length (Nat.le_refl _))
    have LC := Lib.hid (lays_cov (x := fx xs) (C := od.take K) (m := (m : Int) - (K : Int)) xs.length)
    have AB := Lib.hid (T_bd ho hx (xs.length - K) K (by have := HN.out; omega))
    unfold Hid at LB LM LC AB
    rw [← hl] at LB LM LC
    rw [← hA] at AB
    rw [← HN.out] at LB LM LC AB hKN hmN
    have LM : Hid (∀ p ∈ l, p.1 < N ∧ ¬ p.1 ∈ od.take K ∧ p.2.2 - p.2.1 = fx xs p.1 * M ∧ 0 ≤ p.2.1 ∧ p.2.2 ≤ (N : Int) * 20890720927744) := by rw [hM]; exact LM
    have LC : Hid (∀ u, u < N → ¬ u ∈ od.take K → u ∈ l.map (fun p => p.1)) := LC
    have AB := Lib.hid AB
    have hlnN : ln ≤ N := by rw [hln]; exact LB.2.2
    obtain ⟨Q, hQ⟩ : ∃ Q, Q = incQ (fx xs) od K ((m : Int) - (K : Int)) := ⟨_, rfl⟩
    have QC : Hid (∀ u, u ∈ od.take K → Q u = 1) := fun u hu => by rw [hQ, incQ, if_pos hu]
    have QO : Hid (∀ u, ¬ u ∈ od.take K → Q u = fq (fx xs u * M) A) := fun u hu => by rw [hQ, incQ, if_neg hu, hM, hA]
    have OLT : Hid (∀ k, k < K → od.getD k 0 < N) := fun k hk => by rw [HN.out]; exact ho.get (by rw [← HN.out]; omega)
    have OMEM : Hid (∀ u, u < N → u ∈ od) := fun u hu => ho.mem (by rw [← HN.out]; exact hu)
    have HX : Hid (∀ u, u < N → 1 ≤ fx xs u ∧ fx xs u ≤ 1099511627776) := fun u hu => hx u (by rw [← HN.out]; exact hu)
    have OLN : Hid (od.length = N) := by unfold Hid; rw [ho.len, HN.out]
    have fin : Hid (∀ w' a c, Below w.heap.size w w' → RdN w' a c N Q → IncPost xs (m : Int) w (.returned (.tuple #[.slice a N c, .int .i64 0])) w') := fun w' a c hb hq => ⟨hb, .inr ⟨hE, m, od, K, a, c, rfl, hm1, by rw [← HN.out]; exact hmN, hsz, ho, hK, by rw [HN.out], by rw [← HN.out, ← hQ]; exact hq⟩⟩
    have hp' : RdP W2 pa pc l := by rw [hl]; exact hp
    rw [← hl, ← hM, ← hA, ← hln]
    obtain ⟨W3, hW3⟩ : ∃ W, W = W2.alloc (.cells #[.slice ca K cc, .slice pa ln pc, .int .i64 M, .int .i64 A] 50) := ⟨_, rfl⟩
    obtain ⟨g3, hg3⟩ : ∃ g, g = W2.heap.size := ⟨_, rfl⟩
    have b3 : Below W2.heap.size W2 W3 := by rw [hW3]; exact below_new _ _
    have D3 : Hid (Dc W3 g3 (.slice ca K cc) (.slice pa ln pc) M A) := by rw [hW3, hg3]; exact cells4d _ _ _ _ _
    have HB3 : Hid (Below w.heap.size w W3) := b2.trans (b3.mono b2.size)
    have HZ3 : Hid (RdZ W3 ca cc (iz (od.take K))) := hz.below b3
    have HP3 : Hid (RdP W3 pa pc l) := hp'.below b3
    have HM : Hid (0 ≤ M ∧ M ≤ 19) := by unfold Hid; rw [hM]; have := HN.out; omega
    have HLN := Lib.hid hln
    have E0 : ((0 : Int) != 0) = false := rfl
    clear hE ho hK hsz hm1 hmN hKm hM hA hl hx hQ hp' hp hz b2 b3 hln LB ND
    go_upto_region 4 with fail
    rw [← hW3]
    try rw [← hg3]
    clear hW3 hg3
    obtain ⟨gi, hgi⟩ : ∃ g, g = W3.heap.size := ⟨_, rfl⟩
    have HGI := Lib.hid hgi
    clear hgi
    go_upto_region 5 with (at_make; go_loud (refine wpList_make_full _ rfl _ _ 27 rfl W3.heap.size 32 i0 (.agg #[.bool false, .slice none 0 0, .slice none 0 0]) 3 Tryz.underlying27 hi hz0 hz1 _ _ _ _ N rfl rfl (by omega) (by omega) (by rw [hz2]; omega) (by unfold maxLen; omega) (Nat.le_refl _) ?_); intro w4 hown hgr)
    have hb4 : Below W3.heap.size W3 w4 := (Below.refl _ _).grown hgr (Nat.le_refl _) (fun k hk => by cases hk)
    have hown0 : w4.ownsRow W3.heap.size 32 3 (.slice (some ⟨W3.heap.size, 0, none⟩) N N) N (rvs (List.replicate N RV.nil)) := by rw [← made_rvs]; exact hown
    rw [← HGI.out] at hown0
    have HO4 := Lib.hid hown0
    have D4 : Hid (Dc w4 g3 (.slice ca K cc) (.slice pa ln pc) M A) := (hb4.block g3 D3.out.lt).trans D3.out
    have HB4 : Hid (Below w.heap.size w w4) := HB3.out.trans (hb4.mono HB3.out.size)
    have HZ4 : Hid (RdZ w4 ca cc (iz (od.take K))) := HZ3.out.below hb4
    have HP4 : Hid (RdP w4 pa pc l) := HP3.out.below hb4
    have HZB : Hid (0 < (intz (iz (od.take K))).length → ∀ b o, ca = some ⟨b, o, none⟩ → b ≠ gi) := fun h b o e => by have := HZ3.out.lt h b o e; have := HGI.out; omega
    have HPB : Hid (0 < l.length → ∀ b o, pa = some ⟨b, o, none⟩ → b ≠ gi) := fun h b o e => by
      obtain ⟨b', o', e', hc, _⟩ := HP3.out.at h
      rw [e] at e'; cases e'
      have hlt : b < W3.heap.size := World.block_lt_of_cell? _ _ hc
      have := HGI.out
      omega
    have hg3i : Hid (g3 < gi) := by unfold Hid; rw [HGI.out]; exact D3.out.lt
    have hwi : Hid (w.heap.size ≤ gi) := by unfold Hid; rw [HGI.out]; exact HB3.out.size
    have hlk : (iz (od.take K)).length = K := by rw [iz_len, List.length_take, OLN.out]; omega
    have HLK := Lib.hid hlk
    have F1 : Hid (∀ w', Calls Tryz.prog 19 #[.int .i64 1] w' (MakesQ 1 2 w')) := fun w' => FromInt_q 1 (by omega) (by omega) w'
    try rw [← HGI.out]
    clear hown hgr hown0 hb4 HB3 D3 HZ3 HP3 hlk
    obtain ⟨q0, q1, q2, q3, _, _, _, _⟩ := D4.out.cells
    go_wp2_with fail
    clear q0 q1 q2 q3
    go_loopw [28] (fun s28 wr => ∃ (k : Nat) (rs : List RV), k ≤ K ∧ s28 = .int .i64 (k : Int) ∧ Hid (wr.ownsRow gi 32 3 (.slice (some ⟨gi, 0, none⟩) N N) N (rvs rs)) ∧ Hid (Inc wr N rs (P1 od k)) ∧ Hid (w4.grownBy wr (some gi))) (fun s28 _ => K - (intOf s28).toNat)
    case atStart => exact ⟨0, _, by omega, rfl, HO4, ⟨by simp, fun u hu q hq => by simp [P1] at hq⟩, World.grownBy.refl _ _⟩
    case round =>
      obtain ⟨k, rs, hkK, rfl, hown, hinc, hgb⟩ := hrel
      by_cases hlt : k < K
      · have hlt2 : (k : Int) < (K : Int) := by omega
        obtain ⟨b, f0, rfl, kx⟩ := RdV.atZ (rdv_gb HZ4.out HZB.out hgb.out) (show k < (iz (od.take K)).length by rw [HLK.out]; exact hlt)
        obtain ⟨o, hoo⟩ : ∃ o, o = od.getD k 0 := ⟨_, rfl⟩
        have hoN : o < N := by rw [hoo]; exact OLT.out k hlt
        have hkx : (iz (od.take K)).getD k 0 = (o : Int) := by
          have h2 : k < od.length := by rw [OLN.out]; omega
          rw [hoo]
          simp [iz, List.getD, hlt, h2]
        rw [hkx] at kx
        have HOO := Lib.hid hoo
        have hcK : K ≤ cc := by have := HZ4.out.1; rw [intz_length, HLK.out] at this; exact this
        clear hkx hoo
        go_wp2_with fail
        refine (F1.out _).mono ?_; rintro e w6 ⟨s6, a6, n6, c6, o6, m6, d6, rfl, cq6, b6⟩
        have hown6 := row_below hown.out b6
        have hinc6 := hinc.out.below b6
        have hrl : rs.length = N := hinc.out.1
        obtain ⟨v0, hv0⟩ : ∃ v, w6.cell? ⟨gi, o * 3, none⟩ = some v := ⟨_, (hown6.cellAt (o * 3) (by omega)).trans (List.getElem?_eq_getElem (by rw [rvs_length]; omega))⟩
        obtain ⟨v1, hv1⟩ : ∃ v, w6.cell? ⟨gi, o * 3 + 1, none⟩ = some v := ⟨_, (hown6.cellAt (o * 3 + 1) (by omega)).trans (List.getElem?_eq_getElem (by rw [rvs_length]; omega))⟩
        obtain ⟨v2, hv2⟩ : ∃ v, w6.cell? ⟨gi, o * 3 + 2, none⟩ = some v := ⟨_, (hown6.cellAt (o * 3 + 2) (by omega)).trans (List.getElem?_eq_getElem (by rw [rvs_length]; omega))⟩
        have hf0 := hown6.frozenAt (o * 3)
        have hf1 := hown6.frozenAt (o * 3 + 1)
        have hf2 := hown6.frozenAt (o * 3 + 2)
        have RS := Lib.hid (row_set3 hown6 o ⟨s6, a6, n6, c6, o6, m6, d6⟩)
        have IN := Lib.hid (hinc6.keep hown6 RS.out.2)
        have CQ6 := Lib.hid ((cq6.mono (Nat.zero_le _)).keepRow3 hown6 RS.out.2)
        have GB6 := Lib.hid (gb_trans (gb_trans hgb.out (C6.below_gb b6 (some gi))) RS.out.2)
        clear hown6 hinc6 hrl cq6 b6 kx hown hinc hgb
        go_wp2_with fail
        go_roundw
        case rel =>
          refine ⟨k + 1, rs.set o ⟨s6, a6, n6, c6, o6, m6, d6⟩, by omega, by go_num, RS.out.1, IN.out.put CQ6.out (fun v q' hq => ?_), GB6⟩
          unfold P1 at hq ⊢
          rw [take_getD od (by rw [OLN.out]; omega), ← HOO.out] at hq
          by_cases e : v = o
          · left
            subst e
            rw [if_pos (by simp)] at hq
            exact ⟨rfl, (Option.some.inj hq).symm⟩
          · right
            refine ⟨e, ?_⟩
            by_cases e2 : v ∈ od.take k
            · rw [if_pos (by simp [e2])] at hq
              rw [if_pos e2]; exact hq
            · rw [if_neg (by simp [e, e2])] at hq
              cases hq
        case measure => simp [intOf]; omega
      · obtain rfl : k = K := by omega
        have hlt2 : ¬ (k : Int) < (k : Int) := by omega
        have hD := D4.out.gb hgb.out (by have := hg3i.out; simp; omega)
        obtain ⟨q0, q1, q2, q3, _, _, _, _⟩ := hD.cells
        clear hD
        have HI0 : Hid (Inc wr N rs (P2 (od.take k) Q l 0)) := ⟨hinc.out.1, fun u hu q hq => hinc.out.2 u hu q (by
          unfold P2 at hq
          unfold P1
          by_cases e : u ∈ od.take k
          · rw [if_pos e] at hq ⊢; exact hq
          · rw [if_neg e] at hq ⊢; simp at hq)⟩
        have HO0 := hown
        have HG0 := hgb
        clear hinc hown hgb
        go_wp2_with fail
        clear q0 q1 q2 q3
        go_loopw [40] (fun s40 wr => ∃ (j : Nat) (rs : List RV), j ≤ ln ∧ s40 = .int .i64 (j : Int) ∧ Hid (wr.ownsRow gi 32 3 (.slice (some ⟨gi, 0, none⟩) N N) N (rvs rs)) ∧ Hid (Inc wr N rs (P2 (od.take k) Q l j)) ∧ Hid (w4.grownBy wr (some gi))) (fun s40 _ => ln - (intOf s40).toNat)
        case atStart => exact ⟨0, rs, by omega, rfl, HO0, HI0, HG0⟩
        case round =>
          obtain ⟨j, rs, hjl, rfl, hown, hinc, hgb⟩ := hrel
          by_cases hlt : j < ln
          · have hlt2 : (j : Int) < (ln : Int) := by omega
            have hjL : j < l.length := by rw [← HLN.out]; exact hlt
            have HPw := HP4.out.gb HPB.out hgb.out
            obtain ⟨b, f0, rfl, c0, c1, c2⟩ := HPw.at hjL
            obtain ⟨hu, huC, hd, hlo0, hhi1⟩ := LM.out _ (List.getElem_mem hjL)
            have hpc : ln ≤ pc := by have := HPw.1; rw [← HLN.out] at this; exact this
            obtain ⟨u, hue⟩ : ∃ u, u = (l[j]).1 := ⟨_, rfl⟩
            obtain ⟨lo, hlo⟩ : ∃ u, u = (l[j]).2.1 := ⟨_, rfl⟩
            obtain ⟨hi', hhi⟩ : ∃ u, u = (l[j]).2.2 := ⟨_, rfl⟩
            rw [← hue] at hu huC hd c0
            rw [← hlo] at hd hlo0 c1
            rw [← hhi] at hd hhi1 c2
            obtain ⟨P, hP⟩ : ∃ P, P = fx xs u * M := ⟨_, rfl⟩
            rw [← hP] at hd
            have hP0 : 0 ≤ P ∧ P ≤ 1099511627776 * 19 := by
              have := HX.out u hu
              rw [hP]
              exact ⟨Int.mul_nonneg (by omega) HM.out.1, Int.mul_le_mul this.2 HM.out.2 HM.out.1 (by omega)⟩
            have hPw : IntKind.i64.wrap P = P := IntWalk.i64_in _ (by omega)
            have hQu : Q u = fq P A := by rw [QO.out u huC, hP]
            have hAb : 1 ≤ A ∧ A ≤ 4611686018427387904 := by
              have h1 := AB.out
              have h2 : k < N := by
                by_cases e : k < N
                · exact e
                · exfalso
                  have e2 : N ≤ k := by omega
                  apply huC
                  rw [List.take_of_length_le (by rw [OLN.out]; exact e2)]
                  exact OMEM.out u hu
              have h3 := HN.out
              omega
            have PT : Hid (∀ w', Calls Tryz.prog 20 #[.agg #[.slice ca k cc, .slice (some ⟨b, f0, none⟩) ln pc, .int .i64 M, .int .i64 A], .int .i64 P] w' (MakesQ (Q u) 2 w')) := fun w' => by rw [hQu]; exact part_v _ _ M A P hAb (by omega) w'
            obtain ⟨W6, hW6⟩ : ∃ W, W = wr.alloc (.cells #[.int .i64 (u : Int), .int .i64 lo, .int .i64 hi'] 55) := ⟨_, rfl⟩
            obtain ⟨g6, hg6⟩ : ∃ g, g = wr.heap.size := ⟨_, rfl⟩
            have b6 : Below wr.heap.size wr W6 := by rw [hW6]; exact below_new _ _
            have x6 : Hid (W6.heap[g6]? = some (.cells #[.int .i64 (u : Int), .int .i64 lo, .int .i64 hi'] 55 (0, 0))) := by rw [hW6, hg6]; exact heap_alloc_new _ _
            have hown6 := Lib.hid (row_below hown.out b6)
            have hinc6 := Lib.hid (hinc.out.below b6)
            have hgb6 := Lib.hid (gb_trans hgb.out (C6.below_gb b6 (some gi)))
            have hg6i : gi < W6.heap.size := Nat.lt_of_lt_of_le (hown.out.lt gi rfl).2 b6.size
            have hg6n : g6 ≠ gi := by have := (hown.out.lt gi rfl).2; omega
            have hrl : rs.length = N := hinc.out.1
            have D6 := Lib.hid (D4.out.gb hgb6.out (by have := hg3i.out; simp; omega))
            have k6 : ∀ {w1 : World}, W6.grownBy w1 (some gi) → w1.cell? ⟨g6, 0, none⟩ = some (.int .i64 (u : Int)) ∧ w1.cell? ⟨g6, 1, none⟩ = some (.int .i64 lo) ∧ w1.cell? ⟨g6, 2, none⟩ = some (.int .i64 hi') := fun hb => by
              obtain ⟨t0, t1, t2, _⟩ := at_block ((hb.block g6 (Array.getElem?_eq_some_iff.1 x6.out).1 (by simp; omega)).trans x6.out)
              exact ⟨t0, t1, t2⟩
            have k3 : ∀ {w1 : World}, W6.grownBy w1 (some gi) → w1.cell? ⟨g3, 0, none⟩ = some (.slice ca k cc) ∧ w1.cell? ⟨g3, 1, none⟩ = some (.slice (some ⟨b, f0, none⟩) ln pc) ∧ w1.cell? ⟨g3, 2, none⟩ = some (.int .i64 M) ∧ w1.cell? ⟨g3, 3, none⟩ = some (.int .i64 A) := fun hb => by
              obtain ⟨t0, t1, t2, t3, _⟩ := (D6.out.gb hb (by have := hg3i.out; simp; omega)).cells
              exact ⟨t0, t1, t2, t3⟩
            have HUE := Lib.hid hue
            have HUC := Lib.hid huC
            clear hown hinc hgb b6 HPw hue hlo hhi hP hhi1 hlo0 huC hQu hAb
            go_upto_region 13 with fail
            rw [← hW6]
            try rw [← hg6]
            clear hW6 hg6 c0 c1 c2
            refine wp_region_any (by kernel_rfl) ?_
            refine region_ssa [44, 45, 46, 47, 48, 49, 50, 51, 52, 53, 54] (fun w1 => W6.grownBy w1 (some gi)) (fun w1 w2 => w1.grownBy w2 (some gi)) (LsG [fun v _ => v = .slice (some ⟨gi, 0, none⟩) N N, fun v _ => v = .pointer (some ⟨g6, 0, none⟩), fun v _ => v = .int .i64 (u : Int), fun v _ => v = .agg #[.slice ca k cc, .slice (some ⟨b, f0, none⟩) ln pc, .int .i64 M, .int .i64 A], fun v _ => v = .pointer (some ⟨g6, 2, none⟩), fun v _ => v = .int .i64 hi', fun v _ => v = .pointer (some ⟨g6, 1, none⟩), fun v _ => v = .int .i64 lo, fun v _ => v = .int .i64 P, kCQ W6.heap.size (Q u), fun v _ => v = .pointer (some ⟨gi, u * 3, none⟩), fun _ _ => True]) (fun D _ w1 => (D 11 = false → w1.ownsRow gi 32 3 (.slice (some ⟨gi, 0, none⟩) N N) N (rvs rs)) ∧ (D 11 = true → ∃ r9 : RV, w1.ownsRow gi 32 3 (.slice (some ⟨gi, 0, none⟩) N N) N (rvs (rs.set u r9)) ∧ CQ W6.heap.size w1 r9.s r9.ao r9.n r9.ca r9.bo r9.m r9.cb (Q u) 2)) (fun f => rfl) (by kernel_rfl) (by kernel_rfl) ?_ ?_ ?_ ?_ (AllF.below (n := 12) ?_) ?_
            · exact ⟨rfl, rfl, rfl, Nat.le_refl _, fun _ _ _ => rfl⟩
            · intro f; exact ⟨fun _ => hown6.out, fun h => by cases h⟩
            · intro jx vx w1 w2 _ h hE; exact LsG.ext (StGL.all (l := [fun v _ => v = .slice (some ⟨gi, 0, none⟩) N N, fun v _ => v = .pointer (some ⟨g6, 0, none⟩), fun v _ => v = .int .i64 (u : Int), fun v _ => v = .agg #[.slice ca k cc, .slice (some ⟨b, f0, none⟩) ln pc, .int .i64 M, .int .i64 A], fun v _ => v = .pointer (some ⟨g6, 2, none⟩), fun v _ => v = .int .i64 hi', fun v _ => v = .pointer (some ⟨g6, 1, none⟩), fun v _ => v = .int .i64 lo, fun v _ => v = .int .i64 P, kCQ W6.heap.size (Q u), fun v _ => v = .pointer (some ⟨gi, u * 3, none⟩), fun _ _ => True]) ⟨StG.val _ _, StG.val _ _, StG.val _ _, StG.val _ _, StG.val _ _, StG.val _ _, StG.val _ _, StG.val _ _, StG.val _ _, StG.cq hg6i _, StG.val _ _, StG.triv _, trivial⟩) jx vx w1 w2 h hE
            · intro w1 w2 hB hE; exact gb_trans hB hE
            · refine AllF.step (m := 11) (j := 1) rfl ?_ ?_
              · intro D f w1 hD hB hR hp hcl hX
                have HX := Lib.hid hX
                have HC := Lib.hid hcl
                have HB := Lib.hid hB
                have HD := Lib.hid hD
                clear hX hcl hB hD hR hp
                refine wpOp_step rfl (fun K hK => ?_)
                simp only [putAll, Act.put, List.setIfInBounds_toArray, List.set_cons_succ, List.set_cons_zero]
                go_simp
                exact hK _ _ ⟨.slice (some ⟨gi, 0, none⟩) N N, (by show _ = Act.put _ (some 44) _; simp only [putAll, Act.put, List.setIfInBounds_toArray, List.set_cons_succ, List.set_cons_zero, *]; all_goals rfl), rfl, World.grownBy.refl _ _, HX.out⟩
              refine AllF.step (m := 10) (j := 2) rfl ?_ ?_
              · intro D f w1 hD hB hR hp hcl hX
                have HX := Lib.hid hX
                have HC := Lib.hid hcl
                have HB := Lib.hid hB
                have HD := Lib.hid hD
                clear hX hcl hB hD hR hp
                refine wpOp_step rfl (fun K hK => ?_)
                simp only [putAll, Act.put, List.setIfInBounds_toArray, List.set_cons_succ, List.set_cons_zero]
                go_simp
                exact hK _ _ ⟨.pointer (some ⟨g6, 0, none⟩), (by show _ = Act.put _ (some 45) _; simp only [putAll, Act.put, List.setIfInBounds_toArray, List.set_cons_succ, List.set_cons_zero, *]; all_goals rfl), rfl, World.grownBy.refl _ _, HX.out⟩
              refine AllF.step (m := 9) (j := 3) rfl ?_ ?_
              · intro D f w1 hD hB hR hp hcl hX
                have e1 : f 45 = .pointer (some ⟨g6, 0, none⟩) := (hpAt hp 1 (by kernel_rfl)).2
                obtain ⟨j0, j1, j2⟩ := k6 hB
                have HX := Lib.hid hX
                have HC := Lib.hid hcl
                have HB := Lib.hid hB
                have HD := Lib.hid hD
                clear hX hcl hB hD hR hp
                refine wpOp_step rfl (fun K hK => ?_)
                simp only [putAll, Act.put, List.setIfInBounds_toArray, List.set_cons_succ, List.set_cons_zero]
                go_simp
                exact hK _ _ ⟨.int .i64 (u : Int), (by show _ = Act.put _ (some 46) _; simp only [putAll, Act.put, List.setIfInBounds_toArray, List.set_cons_succ, List.set_cons_zero, *]; all_goals rfl), rfl, World.grownBy.refl _ _, HX.out⟩
              refine AllF.step (m := 8) (j := 4) rfl ?_ ?_
              · intro D f w1 hD hB hR hp hcl hX
                obtain ⟨l0, l1, l2, l3⟩ := k3 hB
                have HX := Lib.hid hX
                have HC := Lib.hid hcl
                have HB := Lib.hid hB
                have HD := Lib.hid hD
                clear hX hcl hB hD hR hp
                refine wpOp_step rfl (fun K hK => ?_)
                simp only [putAll, Act.put, List.setIfInBounds_toArray, List.set_cons_succ, List.set_cons_zero]
                go_simp
                exact hK _ _ ⟨.agg #[.slice ca k cc, .slice (some ⟨b, f0, none⟩) ln pc, .int .i64 M, .int .i64 A], (by show _ = Act.put _ (some 47) _; simp only [putAll, Act.put, List.setIfInBounds_toArray, List.set_cons_succ, List.set_cons_zero, *]; all_goals rfl), rfl, World.grownBy.refl _ _, HX.out⟩
              refine AllF.step (m := 7) (j := 5) rfl ?_ ?_
              · intro D f w1 hD hB hR hp hcl hX
                have HX := Lib.hid hX
                have HC := Lib.hid hcl
                have HB := Lib.hid hB
                have HD := Lib.hid hD
                clear hX hcl hB hD hR hp
                refine wpOp_step rfl (fun K hK => ?_)
                simp only [putAll, Act.put, List.setIfInBounds_toArray, List.set_cons_succ, List.set_cons_zero]
                go_simp
                exact hK _ _ ⟨.pointer (some ⟨g6, 2, none⟩), (by show _ = Act.put _ (some 48) _; simp only [putAll, Act.put, List.setIfInBounds_toArray, List.set_cons_succ, List.set_cons_zero, *]; all_goals rfl), rfl, World.grownBy.refl _ _, HX.out⟩
              refine AllF.step (m := 6) (j := 6) rfl ?_ ?_
              · intro D f w1 hD hB hR hp hcl hX
                have e4 : f 48 = .pointer (some ⟨g6, 2, none⟩) := (hpAt hp 4 (by kernel_rfl)).2
                obtain ⟨j0, j1, j2⟩ := k6 hB
                have HX := Lib.hid hX
                have HC := Lib.hid hcl
                have HB := Lib.hid hB
                have HD := Lib.hid hD
                clear hX hcl hB hD hR hp
                refine wpOp_step rfl (fun K hK => ?_)
                simp only [putAll, Act.put, List.setIfInBounds_toArray, List.set_cons_succ, List.set_cons_zero]
                go_simp
                exact hK _ _ ⟨.int .i64 hi', (by show _ = Act.put _ (some 49) _; simp only [putAll, Act.put, List.setIfInBounds_toArray, List.set_cons_succ, List.set_cons_zero, *]; all_goals rfl), rfl, World.grownBy.refl _ _, HX.out⟩
              refine AllF.step (m := 5) (j := 7) rfl ?_ ?_
              · intro D f w1 hD hB hR hp hcl hX
                have HX := Lib.hid hX
                have HC := Lib.hid hcl
                have HB := Lib.hid hB
                have HD := Lib.hid hD
                clear hX hcl hB hD hR hp
                refine wpOp_step rfl (fun K hK => ?_)
                simp only [putAll, Act.put, List.setIfInBounds_toArray, List.set_cons_succ, List.set_cons_zero]
                go_simp
                exact hK _ _ ⟨.pointer (some ⟨g6, 1, none⟩), (by show _ = Act.put _ (some 50) _; simp only [putAll, Act.put, List.setIfInBounds_toArray, List.set_cons_succ, List.set_cons_zero, *]; all_goals rfl), rfl, World.grownBy.refl _ _, HX.out⟩
              refine AllF.step (m := 4) (j := 8) rfl ?_ ?_
              · intro D f w1 hD hB hR hp hcl hX
                have e6 : f 50 = .pointer (some ⟨g6, 1, none⟩) := (hpAt hp 6 (by kernel_rfl)).2
                obtain ⟨j0, j1, j2⟩ := k6 hB
                have HX := Lib.hid hX
                have HC := Lib.hid hcl
                have HB := Lib.hid hB
                have HD := Lib.hid hD
                clear hX hcl hB hD hR hp
                refine wpOp_step rfl (fun K hK => ?_)
                simp only [putAll, Act.put, List.setIfInBounds_toArray, List.set_cons_succ, List.set_cons_zero]
                go_simp
                exact hK _ _ ⟨.int .i64 lo, (by show _ = Act.put _ (some 51) _; simp only [putAll, Act.put, List.setIfInBounds_toArray, List.set_cons_succ, List.set_cons_zero, *]; all_goals rfl), rfl, World.grownBy.refl _ _, HX.out⟩
              refine AllF.step (m := 3) (j := 9) rfl ?_ ?_
              · intro D f w1 hD hB hR hp hcl hX
                have e5 : f 49 = .int .i64 hi' := (hpAt hp 5 (by kernel_rfl)).2
                have e7 : f 51 = .int .i64 lo := (hpAt hp 7 (by kernel_rfl)).2
                have HX := Lib.hid hX
                have HC := Lib.hid hcl
                have HB := Lib.hid hB
                have HD := Lib.hid hD
                clear hX hcl hB hD hR hp
                refine wpOp_step rfl (fun K hK => ?_)
                simp only [putAll, Act.put, List.setIfInBounds_toArray, List.set_cons_succ, List.set_cons_zero]
                go_simp
                exact hK _ _ ⟨.int .i64 P, (by show _ = Act.put _ (some 52) _; simp only [putAll, Act.put, List.setIfInBounds_toArray, List.set_cons_succ, List.set_cons_zero, *]; all_goals rfl), rfl, World.grownBy.refl _ _, HX.out⟩
              refine AllF.step (m := 2) (j := 10) rfl ?_ ?_
              · intro D f w1 hD hB hR hp hcl hX
                have e3 : f 47 = .agg #[.slice ca k cc, .slice (some ⟨b, f0, none⟩) ln pc, .int .i64 M, .int .i64 A] := (hpAt hp 3 (by kernel_rfl)).2
                have e8 : f 52 = .int .i64 P := (hpAt hp 8 (by kernel_rfl)).2
                have hj : D 11 = false := noF (hcl 11) (by kernel_rfl) hD
                have HJ : Hid (upd D 9 11 = false) := hj
                have HRW : Hid (∃ v0, w1.ownsRow gi 32 3 (.slice (some ⟨gi, 0, none⟩) N N) N (rvs rs) ∧ v0 = (0 : Nat)) := ⟨0, hX.1 hj, rfl⟩
                have hs1 : Hid (W6.heap.size ≤ w1.heap.size) := hB.size
                have HX := Lib.hid hX
                have HC := Lib.hid hcl
                have HB := Lib.hid hB
                have HD := Lib.hid hD
                clear hX hcl hB hD hR hp
                refine wpOp_step rfl (fun K hK => ?_)
                simp only [putAll, Act.put, List.setIfInBounds_toArray, List.set_cons_succ, List.set_cons_zero]
                go_simp
                refine (PT.out w1).mono ?_; rintro e w2 ⟨s9, a9, n9, c9, o9, m9, d9, rfl, cq, b2⟩
                go_simp
                refine hK _ _ ⟨.agg #[.bool s9, .slice a9 n9 c9, .slice o9 m9 d9], (by show _ = Act.put _ (some 53) _; simp only [putAll, Act.put, List.setIfInBounds_toArray, List.set_cons_succ, List.set_cons_zero, *]; all_goals rfl), ⟨s9, a9, n9, c9, o9, m9, d9, rfl, cq.mono hs1.out⟩, C6.below_gb b2 _, ⟨fun _ => ?_, fun h => ?_⟩⟩
                · obtain ⟨_, h1, _⟩ := HRW.out
                  exact row_below h1 b2
                · rw [HJ.out] at h; cases h
              refine AllF.step (m := 1) (j := 11) rfl ?_ ?_
              · intro D f w1 hD hB hR hp hcl hX
                have e0 : f 44 = .slice (some ⟨gi, 0, none⟩) N N := (hpAt hp 0 (by kernel_rfl)).2
                have e2 : f 46 = .int .i64 (u : Int) := (hpAt hp 2 (by kernel_rfl)).2
                have HX := Lib.hid hX
                have HC := Lib.hid hcl
                have HB := Lib.hid hB
                have HD := Lib.hid hD
                clear hX hcl hB hD hR hp
                refine wpOp_step rfl (fun K hK => ?_)
                simp only [putAll, Act.put, List.setIfInBounds_toArray, List.set_cons_succ, List.set_cons_zero]
                go_simp
                exact hK _ _ ⟨.pointer (some ⟨gi, u * 3, none⟩), (by show _ = Act.put _ (some 54) _; simp only [putAll, Act.put, List.setIfInBounds_toArray, List.set_cons_succ, List.set_cons_zero, *]; all_goals rfl), rfl, World.grownBy.refl _ _, HX.out⟩
              refine AllF.step (m := 0) (j := 12) rfl ?_ ?_
              · intro D f w1 hD hB hR hp hcl hX
                have e10 : f 54 = .pointer (some ⟨gi, u * 3, none⟩) := (hpAt hp 10 (by kernel_rfl)).2
                obtain ⟨s9, a9, n9, c9, o9, m9, d9, e9, q9⟩ := (hpAt hp 9 (by kernel_rfl)).2
                replace e9 : f 53 = _ := e9
                have hrow := hX.1 hD
                obtain ⟨v0, hv0⟩ : ∃ v, w1.cell? ⟨gi, u * 3, none⟩ = some v := ⟨_, (hrow.cellAt (u * 3) (by omega)).trans (List.getElem?_eq_getElem (by rw [rvs_length]; omega))⟩
                obtain ⟨v1, hv1⟩ : ∃ v, w1.cell? ⟨gi, u * 3 + 1, none⟩ = some v := ⟨_, (hrow.cellAt (u * 3 + 1) (by omega)).trans (List.getElem?_eq_getElem (by rw [rvs_length]; omega))⟩
                obtain ⟨v2, hv2⟩ : ∃ v, w1.cell? ⟨gi, u * 3 + 2, none⟩ = some v := ⟨_, (hrow.cellAt (u * 3 + 2) (by omega)).trans (List.getElem?_eq_getElem (by rw [rvs_length]; omega))⟩
                have hf0 := hrow.frozenAt (u * 3)
                have hf1 := hrow.frozenAt (u * 3 + 1)
                have hf2 := hrow.frozenAt (u * 3 + 2)
                have RS := Lib.hid (row_set3 hrow u ⟨s9, a9, n9, c9, o9, m9, d9⟩)
                have Q9 := Lib.hid (q9.keepRow3 hrow RS.out.2)
                clear hrow q9
                have HX := Lib.hid hX
                have HC := Lib.hid hcl
                have HB := Lib.hid hB
                have HD := Lib.hid hD
                clear hX hcl hB hD hR hp
                refine wpOp_step rfl (fun K hK => ?_)
                simp only [putAll, Act.put, List.setIfInBounds_toArray, List.set_cons_succ, List.set_cons_zero]
                go_simp
                exact hK _ _ ⟨undef, (by show _ = Act.put _ (none) _; simp only [putAll, Act.put, List.setIfInBounds_toArray, List.set_cons_succ, List.set_cons_zero, *]; all_goals rfl), trivial, RS.out.2, ⟨fun h => (by cases h), fun _ => ⟨_, RS.out.1, Q9.out⟩⟩⟩
              exact trivial
            · intro D f w1 hall hB hR hX
              obtain ⟨r9, hrow9, cq9⟩ := hX.2 (hall 11 (by decide))
              have HROW := Lib.hid hrow9
              have HIN := Lib.hid ((hinc6.out.keep hown6.out hB).put (u := u) (cq9.mono (Nat.zero_le _)) (P' := P2 (od.take k) Q l (j + 1)) (fun v q' hq => by
                unfold P2 at hq ⊢
                rw [List.take_add_one, List.getElem?_eq_getElem hjL, List.map_append] at hq
                by_cases e : v = u
                · left
                  subst e
                  rw [if_neg HUC.out, if_pos (by simp [HUE.out])] at hq
                  exact ⟨rfl, (Option.some.inj hq).symm⟩
                · right
                  refine ⟨e, ?_⟩
                  have e' : v ≠ (l[j]).1 := by rw [← HUE.out]; exact e
                  by_cases e1 : v ∈ od.take k
                  · rw [if_pos e1] at hq ⊢; exact hq
                  · rw [if_neg e1] at hq ⊢
                    by_cases e2 : v ∈ (l.take j).map (fun p => p.1)
                    · rw [if_pos (List.mem_append_left _ e2)] at hq
                      rw [if_pos e2]; exact hq
                    · rw [if_neg (by rw [List.mem_append]; exact fun h => h.elim e2 (fun h => e' (by simpa using h)))] at hq
                      cases hq))
              have HGB := Lib.hid (gb_trans hgb6.out hB)
              clear hrow9 cq9 hX hR hall hB k6 k3
              simp only [putAll, Act.put, List.setIfInBounds_toArray, List.set_cons_succ, List.set_cons_zero]
              go_wp2_with fail
              go_roundw
              case rel => exact ⟨j + 1, _, by omega, by go_num, HROW, HIN, HGB⟩
              case measure => simp [intOf]; omega
          · obtain rfl : j = ln := by omega
            have hlt2 : ¬ (j : Int) < (j : Int) := by omega
            have hq : RdN wr (some ⟨gi, 0, none⟩) N N Q := by
              obtain ⟨ra, rc, e, hrd⟩ := RdR.of_row hown.out
              have hrl : rs.length = N := hinc.out.1
              rw [hrl] at e
              cases e
              refine ⟨rs, hrl, hrd, hrl, fun u hu q hq => hinc.out.2 u hu q ?_⟩
              unfold P2
              by_cases e : u ∈ od.take k
              · rw [if_pos e, ← QC.out u e]; exact hq
              · rw [if_neg e, HLN.out, List.take_length, if_pos (LC.out u hu e)]; exact hq
            have hbW : Below w.heap.size w wr := HB4.out.trans (row_gb hgb.out HB4.out.size (fun q e => by cases e; exact hwi.out))
            have FIN := Lib.hid (fin.out wr _ _ hbW hq)
            clear hq hbW hown hinc hgb
            go_wp2_with fail
            refine bodyPost_ret (v := .tuple #[.slice (some ⟨gi, 0, none⟩) N N, .int .i64 0]) (by simp [results, Tryz.results6, go_sem]) rfl ?_
            exact FIN.out
end Go.Proofs.YtmhjimcdiglpcaaGreatDoor.Dr
