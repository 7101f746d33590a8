import Derived.Test.YtmhjimcdiglpcaaGreatDoorDrF
import Derived.Test.YtmhjimcdiglpcaaGreatDoorDrD
import Derived.Test.YtmhjimcdiglpcaaGreatDoorEstA
import Derived.Maps.AppendAt
import Derived.Test.YtmhjimcdiglpcaaGreatDoorDrE
import Derived.Test.YtmhjimcdiglpcaaGreatDoorRatsC
import Derived.Test.YtmhjimcdiglpcaaGreatDoorAwake
import Derived.Test.YtmhjimcdiglpcaaGreatDoorRatsD
import Derived.Test.YtmhjimcdiglpcaaGreatDoorRatsE
/- Rows side by side. -/
namespace Go.Proofs.YtmhjimcdiglpcaaGreatDoor.Dr
open Go.RowKit Go.Sort C6 SN

theorem wp_own_at {o : Oper} {a : Act} {K : Act → World → Prop} {Q : Exit → Act → World → Prop} (w : World) (s x : Operand) (t : TypeId)
    (ho : o.op = .call { callee := .builtin .append, args := #[s, x], argTypes := #[t, t] })
    (base : Nat) (e : TypeId) (i : TypeInfo) (z : Value) (size bytes : Nat) (ht : Tryz.prog.underlying t = some (.slice e)) (hi : Tryz.prog.info? e = some i) (hz : i.zero = some z)
    (hsize : i.size = size) (hby : i.bytes = bytes) (hzs : z.cells.size = size) (hsz : 0 < size)
    (v : Value) (n : Nat) (xs : List Value) (hs : a.eval s = v) (hown : w.ownsRow base e size v n xs)
    (ad : Addr) (m c : Nat) (news : List Value) (hx : a.eval x = .slice (some ad) m c) (hl : news.length = m * size) (hnews : ∀ j u, news[j]? = some u → w.cell? (ad.add j) = some u) (h1 : ∀ u ∈ news, u.oneCell' = true)
    (h63 : n + m ≤ maxLen) (hbytes : (n + m) * bytes ≤ 140737488355328) (hbase : base ≤ w.heap.size)
    (h : ∀ v' w', w'.ownsRow base e size v' (n + m) (xs ++ news) → w.grownBy w' v.ownBlock → (v'.ownBlock = v.ownBlock ∨ v'.ownBlock = some w.heap.size) → K (a.put o.dst v') w') : Oper.wp Tryz.prog o a w K Q := by
  obtain ⟨v', w', hr, h2, h3, _, h5⟩ := run_append_own_at (P := Tryz.prog) w base t o.type e i z size bytes ht hi hz hsize hby hzs hsz v n xs hown ad m c news hl hnews h1 h63 hbytes hbase
  unfold Oper.wp execOp
  simp only [ho, resolve, invoke, builtin, Sem.run_bind, Sem.run_pure, Result.andThen_ok, List.map_toArray, List.map_cons, List.map_nil, hs, hx, hr]
  exact h v' w' h2 h3 h5

/-- rows of other types lie in other blocks -/
theorem rows_apart {w : World} {b1 b2 k1 k2 n1 n2 : Nat} {t1 t2 : TypeId} {u v : Value} {xs ys : List Value} (ht : t1 ≠ t2) (h1 : w.ownsRow b1 t1 k1 u n1 xs) (h2 : w.ownsRow b2 t2 k2 v n2 ys) : ∀ k, u.ownBlock = some k → v.ownBlock ≠ some k := by
  intro k hk hk2
  rcases h1.2 with ⟨rfl, _⟩ | ⟨g, cap, cur, rfl, _, hg, _⟩
  · cases hk
  · rcases h2.2 with ⟨rfl, _⟩ | ⟨g', cap', cur', rfl, _, hg', _⟩
    · cases hk2
    · obtain rfl : g = k := Option.some.inj hk
      obtain rfl : g' = g := Option.some.inj hk2
      rw [hg] at hg'
      cases hg'
      exact ht rfl
theorem row_eb {w w' : World} {B base k n : Nat} {t : TypeId} {u v : Value} {xs : List Value} (h : w.ownsRow base t k u n xs) (hB : ∀ g, u.ownBlock = some g → g ≠ B ∧ v.ownBlock ≠ some g) (e : EB B v w w') : w'.ownsRow base t k u n xs := by
  refine ⟨h.1, ?_⟩
  rcases h.2 with ⟨rfl, h0⟩ | ⟨g, cap, cur, rfl, hb, hg, hr⟩
  · exact .inl ⟨rfl, h0⟩
  · exact .inr ⟨g, cap, cur, rfl, hb, (e.2.2.2.2 g (Array.getElem?_eq_some_iff.1 hg).1 (hB g rfl).1 (hB g rfl).2).trans hg, hr⟩
theorem fr_eb {B0 B : Nat} {w w' : World} {v : Value} {ao : Option Addr} {ca : Nat} {xs : List Nat} (h : Fr B0 w ao ca xs) (hB : ∀ b cur, w.heap[b]? = some (.cells cur 71 (0, 0)) → b ≠ B ∧ v.ownBlock ≠ some b) (e : EB B v w w') : Fr B0 w' ao ca xs := by
  obtain ⟨h1, h2, h3, h4⟩ := h
  refine ⟨h1, h2, h3, ?_⟩
  rcases h4 with h4 | ⟨b, he, hb, hw⟩
  · exact .inl h4
  · obtain ⟨cur, hc, _⟩ := id hw
    exact .inr ⟨b, he, hb, hw.block (e.2.2.2.2 b hw.lt (hB b cur hc).1 (hB b cur hc).2)⟩
theorem lc_eb {Bs B : Nat} {w w' : World} {v : Value} {rs : List RV} {qs : List Rat} {k : Nat} (h : Lc Bs w rs qs k) (hB : ∀ b cur, w.heap[b]? = some (.cells cur 71 (0, 0)) → b ≠ B ∧ v.ownBlock ≠ some b) (e : EB B v w w') : Lc Bs w' rs qs k := ⟨h.1, fun i hi => by
  obtain ⟨h1, h2, h3, h4, h5, h6⟩ := h.2 i hi
  exact ⟨h1, h2, h3, fr_eb h4 hB e, fr_eb h5 hB e, h6⟩⟩
theorem u32_ne {w : World} {B l cap i base n : Nat} {ao : Option Addr} {v : Value} {xs : List Value} (ht : Tap w B ao l cap i) (ho : w.ownsRow base 2 1 v n xs) : ∀ b cur, w.heap[b]? = some (.cells cur 71 (0, 0)) → b ≠ B ∧ v.ownBlock ≠ some b := by
  intro b cur hb
  constructor
  · rintro rfl
    unfold Tap at ht
    rw [hb] at ht
    cases ht
  · intro hv
    rcases ho.2 with ⟨rfl, _⟩ | ⟨g, cap, cur', rfl, _, hg, _⟩
    · cases hv
    · obtain rfl : g = b := Option.some.inj hv
      rw [hb] at hg
      cases hg
theorem row6 {w : World} {g : Nat} {t : TypeId} (h : w.heap[g]? = some (.cells #[.int .i64 1, .int .i64 2, .int .i64 3, .int .i64 7, .int .i64 20, .int .i64 300] t (0, 0))) {i : Nat} (hi : i < 6) : ∃ x : Int, w.cell? ⟨g, i, none⟩ = some (.int .i64 x) ∧ 1 ≤ x ∧ x ≤ 300 := by
  have : i = 0 ∨ i = 1 ∨ i = 2 ∨ i = 3 ∨ i = 4 ∨ i = 5 := by omega
  rcases this with rfl | rfl | rfl | rfl | rfl | rfl
  · exact ⟨1, by simp [World.cell?, h], by omega⟩
  · exact ⟨2, by simp [World.cell?, h], by omega⟩
  · exact ⟨3, by simp [World.cell?, h], by omega⟩
  · exact ⟨7, by simp [World.cell?, h], by omega⟩
  · exact ⟨20, by simp [World.cell?, h], by omega⟩
  · exact ⟨300, by simp [World.cell?, h], by omega⟩
def PM6 (W : World) (B : Nat) (v : Value) : List (Value → World → Prop) := [fun u _ => u = v, fun u w => ∃ g, u = .slice (some ⟨g, 0, none⟩) 6 6 ∧ W.heap.size ≤ g ∧ w.heap[g]? = some (.cells #[.int .i64 1, .int .i64 2, .int .i64 3, .int .i64 7, .int .i64 20, .int .i64 300] 3 (0, 0)), fun u _ => u = .pointer (some ⟨B, 0, none⟩), fun u _ => ∃ q : Nat, q < 6 ∧ u = .int .i64 (q : Int), fun u w => ∃ g q x, u = .pointer (some ⟨g, q, none⟩) ∧ W.heap.size ≤ g ∧ w.cell? ⟨g, q, none⟩ = some (.int .i64 x) ∧ 1 ≤ x ∧ x ≤ 300, fun u _ => ∃ x, u = .int .i64 x ∧ 1 ≤ x ∧ x ≤ 300, fun u _ => u = .pointer (some ⟨B, 0, none⟩), fun u _ => ∃ q : Nat, q < 4 ∧ u = .int .i64 (q : Int), fun u _ => ∃ y, u = .int .i64 y ∧ 1 ≤ y ∧ y ≤ 402, fun u w => ∃ g y, u = .slice (some ⟨g, 0, none⟩) 1 1 ∧ W.heap.size ≤ g ∧ w.heap[g]? = some (.cells #[.int .i64 y] 2 (0, 0)) ∧ 1 ≤ y ∧ y ≤ 402, fun _ _ => True, fun _ _ => True]
theorem PM6.st {W : World} {B : Nat} {v : Value} (hB : B < W.heap.size) (hv : ∀ k, v.ownBlock = some k → k < W.heap.size) : ∀ p ∈ PM6 W B v, ∀ u w w', p u w → EB B v w w' → p u w' := by
  have blk : ∀ {g : Nat} {w w' : World}, W.heap.size ≤ g → g < w.heap.size → EB B v w w' → w'.heap[g]? = w.heap[g]? := fun hg hl e => e.2.2.2.2 _ hl (by omega) (fun q => by have := hv _ q; omega)
  intro p hp
  unfold PM6 at hp
  simp only [List.mem_cons, List.not_mem_nil, or_false] at hp
  rcases hp with rfl | rfl | rfl | rfl | rfl | rfl | rfl | rfl | rfl | rfl | rfl | rfl
  · intro u w w' h _; exact h
  · rintro u w w' ⟨g, h1, h2, h3⟩ e
    exact ⟨g, h1, h2, (blk h2 (Array.getElem?_eq_some_iff.1 h3).1 e).trans h3⟩
  · intro u w w' h _; exact h
  · intro u w w' h _; exact h
  · rintro u w w' ⟨g, q, x, h1, h2, h3, h4⟩ e
    exact ⟨g, q, x, h1, h2, (World.cell?_of_block (a := ⟨g, q, none⟩) (blk h2 (World.block_lt_of_cell? _ _ h3) e)).trans h3, h4⟩
  · intro u w w' h _; exact h
  · intro u w w' h _; exact h
  · intro u w w' h _; exact h
  · intro u w w' h _; exact h
  · rintro u w w' ⟨g, y, h1, h2, h3, h4⟩ e
    exact ⟨g, y, h1, h2, (blk h2 (Array.getElem?_eq_some_iff.1 h3).1 e).trans h3, h4⟩
  · intro u w w' h _; exact h
  · intro u w w' h _; exact h

/-- all blocks but two rows' own are as they were -/
def E2 (u v : Value) (w w' : World) : Prop := w'.os = w.os ∧ w'.tape = w.tape ∧ w'.output = w.output ∧ w.heap.size ≤ w'.heap.size ∧ ∀ b, b < w.heap.size → u.ownBlock ≠ some b → v.ownBlock ≠ some b → w'.heap[b]? = w.heap[b]?
theorem E2.refl (u v : Value) (w : World) : E2 u v w w := ⟨rfl, rfl, rfl, Nat.le_refl _, fun _ _ _ _ => rfl⟩
theorem E2.trans {u v : Value} {a b c : World} (h : E2 u v a b) (k : E2 u v b c) : E2 u v a c :=
  ⟨k.1.trans h.1, k.2.1.trans h.2.1, k.2.2.1.trans h.2.2.1, Nat.le_trans h.2.2.2.1 k.2.2.2.1, fun x h1 h2 h3 => (k.2.2.2.2 x (Nat.lt_of_lt_of_le h1 h.2.2.2.1) h2 h3).trans (h.2.2.2.2 x h1 h2 h3)⟩
theorem E2.of_below {u v : Value} {w w' : World} (h : Below w.heap.size w w') : E2 u v w w' := ⟨h.os, h.tape, h.output, h.size, fun b hb _ _ => h.block b hb⟩
theorem E2.of_row1 {u v : Value} {w w' : World} (h : w.grownBy w' u.ownBlock) : E2 u v w w' := ⟨h.os, h.tape, h.output, h.size, fun b hb hn _ => h.block b hb (fun e => hn e.symm)⟩
theorem E2.of_row2 {u v : Value} {w w' : World} (h : w.grownBy w' v.ownBlock) : E2 u v w w' := ⟨h.os, h.tape, h.output, h.size, fun b hb _ hn => h.block b hb (fun e => hn e.symm)⟩
def litP (W : World) (r : RV) : Value → World → Prop := fun x w => ∃ g, x = .slice (some ⟨g, 0, none⟩) 1 1 ∧ W.heap.size ≤ g ∧ w.heap[g]? = some (.cells #[.bool r.s, .slice r.ao r.n r.ca, .slice r.bo r.m r.cb] 32 (0, 0))
def St2 (u v : Value) (p : Value → World → Prop) : Prop := ∀ x w w', p x w → E2 u v w w' → p x w'
theorem St2.val (u v y : Value) : St2 u v (fun x _ => x = y) := fun _ _ _ h _ => h
theorem St2.triv (u v : Value) : St2 u v (fun _ _ => True) := fun _ _ _ h _ => h
theorem St2.lit {u v : Value} {W : World} (hu : ∀ k, u.ownBlock = some k → k < W.heap.size) (hv : ∀ k, v.ownBlock = some k → k < W.heap.size) (r : RV) : St2 u v (litP W r) := by
  rintro x w w' ⟨g, rfl, hg, h⟩ e
  exact ⟨g, rfl, hg, (e.2.2.2.2 g (Array.getElem?_eq_some_iff.1 h).1 (fun q => by have := hu _ q; omega) (fun q => by have := hv _ q; omega)).trans h⟩
def St2L (u v : Value) : List (Value → World → Prop) → Prop
  | [] => True
  | p :: l => St2 u v p ∧ St2L u v l
theorem St2L.all {u v : Value} : ∀ {l : List (Value → World → Prop)}, St2L u v l → ∀ p ∈ l, St2 u v p
  | [], _, p, hp => by simp at hp
  | q :: l, h, p, hp => by
    rcases List.mem_cons.1 hp with rfl | hp
    · exact h.1
    · exact h.2.all p hp
/-- a row with one number more, apart from another row's old block -/
def RowB (M i : Nat) (xs : List Value) (r : RV) (x z : Value) (w : World) : Prop := ∃ a c, x = .slice a (i + 1) c ∧ w.ownsRow M 32 3 (.slice a (i + 1) c) (i + 1) (xs ++ [.bool r.s, .slice r.ao r.n r.ca, .slice r.bo r.m r.cb]) ∧ ∀ k, x.ownBlock = some k → z.ownBlock ≠ some k
def X30 (M i : Nat) (xs1 xs2 : List Value) (r1 r2 : RV) (u v : Value) (d6 d13 d14 d15 : Bool) (f6 f13 f14 f15 : Value) (w : World) : Prop :=
  (d6 = false → w.ownsRow M 32 3 u i xs1) ∧ (d6 = true → RowB M i xs1 r1 f6 v w) ∧ (d13 = false → w.ownsRow M 32 3 v i xs2) ∧ (d13 = true → RowB M i xs2 r2 f13 u w ∧ ∀ k, f6.ownBlock = some k → f13.ownBlock ≠ some k) ∧ (d14 = false → f14 = u) ∧ (d14 = true → f14 = f6) ∧ (d15 = false → f15 = v) ∧ (d15 = true → f15 = f13)
theorem X30.below {M i : Nat} {xs1 xs2 : List Value} {r1 r2 : RV} {u v : Value} {d6 d13 d14 d15 : Bool} {f6 f13 f14 f15 : Value} {w w' : World} (h : X30 M i xs1 xs2 r1 r2 u v d6 d13 d14 d15 f6 f13 f14 f15 w) (b : Below w.heap.size w w') : X30 M i xs1 xs2 r1 r2 u v d6 d13 d14 d15 f6 f13 f14 f15 w' := by
  obtain ⟨h1, h2, h3, h4, h5⟩ := h
  refine ⟨fun h => row_below (h1 h) b, fun h => ?_, fun h => row_below (h3 h) b, fun h => ?_, h5⟩
  · obtain ⟨a, c, e, hr, hk⟩ := h2 h
    exact ⟨a, c, e, row_below hr b, hk⟩
  · obtain ⟨⟨a, c, e, hr, hk⟩, hh⟩ := h4 h
    exact ⟨⟨a, c, e, row_below hr b, hk⟩, hh⟩
theorem fr_box {B g : Nat} {w w' : World} {ao : Option Addr} {ca : Nat} {xs : List Nat} {u v x : Value} (hg : w.heap[g]? = some (.cells #[u, v, x] 32 (0, 0))) (h : Fr B w ao ca xs) (k : w.grownBy w' (some g)) : Fr B w' ao ca xs := by
  obtain ⟨h1, h2, h3, h4⟩ := h
  refine ⟨h1, h2, h3, ?_⟩
  rcases h4 with h4 | ⟨b, e, hb, hw⟩
  · exact .inl h4
  · refine .inr ⟨b, e, hb, hw.grown k ?_⟩
    intro q
    obtain rfl : b = g := Option.some.inj q
    obtain ⟨cur', h5, _⟩ := hw
    rw [h5] at hg
    cases hg
theorem cq_box {B g : Nat} {w w' : World} {u v x : Value} (hg : w.heap[g]? = some (.cells #[u, v, x] 32 (0, 0))) {s : Bool} {ao : Option Addr} {n ca : Nat} {bo : Option Addr} {m cb : Nat} {q : Rat} {k : Nat} (h : CQ B w s ao n ca bo m cb q k) (b : w.grownBy w' (some g)) : CQ B w' s ao n ca bo m cb q k := by
  obtain ⟨h1, h2, h3, h4, h5, h6⟩ := h
  exact ⟨h1, h2, h3, fr_box hg h4 b, fr_box hg h5 b, h6⟩
theorem below_e2 {M : Nat} {u v : Value} {a w w' : World} (h : Below M a w) (e : E2 u v w w') (hM : M ≤ w.heap.size) (hu : ∀ k, u.ownBlock = some k → M ≤ k) (hv : ∀ k, v.ownBlock = some k → M ≤ k) : Below M a w' :=
  ⟨e.1.trans h.os, e.2.1.trans h.tape, e.2.2.1.trans h.output, Nat.le_trans h.size e.2.2.2.1, fun b hb => (e.2.2.2.2 b (Nat.lt_of_lt_of_le hb hM) (fun q => by have := hu _ q; omega) (fun q => by have := hv _ q; omega)).trans (h.block b hb)⟩
/-- a number of any size -/
def kCQk (B : Nat) (q : Rat) (k : Nat) : Value → World → Prop := fun v w => ∃ s a n c o m d, v = .agg #[.bool s, .slice a n c, .slice o m d] ∧ CQ B w s a n c o m d q k
theorem StG.cqk {g B : Nat} (hB : g < B) (q : Rat) (k : Nat) : StG g (kCQk B q k) := by
  rintro v w w' ⟨s, a, n, c, o, m, d, rfl, h⟩ b
  exact ⟨s, a, n, c, o, m, d, rfl, cq_gbl h hB b⟩
theorem kq_top {i : Nat} (hi : i ≤ 9) : kq 8200193 i + kq 8200193 i + 1 ≤ 549755813888 := by
  unfold kq
  have h1 : 2 ^ i ≤ 2 ^ 9 := Nat.pow_le_pow_right (by omega) hi
  have h2 : (8200193 + 1) * 2 ^ i ≤ (8200193 + 1) * 2 ^ 9 := Nat.mul_le_mul_left _ h1
  have e : (2 : Nat) ^ 9 = 512 := rfl
  omega
theorem getD_range (l : List Rat) : (List.range l.length).map (fun u => l.getD u 0) = l := by
  apply List.ext_getElem
  · simp
  · intro i h1 h2
    simp [List.getD, h2]
theorem map_getD_take {α : Type} (l : List Nat) (f : Nat → α) {i : Nat} (hi : i < l.length) : ((l.take (i + 1)).map f) = (l.take i).map f ++ [f (l.getD i 0)] := by
  rw [take_getD l hi, List.map_append]
  rfl
/-- some of the numbers of a list -/
theorem ls_pick {w : World} {rs : List RV} {qs : List Rat} {k : Nat} (h : Ls w rs qs k) (l : List Nat) (hl : ∀ u ∈ l, u < rs.length) : Ls w (l.map (fun u => rs.getD u RV.nil)) (l.map (fun u => qs.getD u 0)) k := ⟨by simp, fun i hi => by
  have hil : i < l.length := by simpa using hi
  have := h.2 l[i] (hl _ (List.getElem_mem hil))
  simpa [List.getD, hil] using this⟩
end Go.Proofs.YtmhjimcdiglpcaaGreatDoor.Dr
/- The mean of the estimated totals over all starts is the total. -/
namespace Go.Proofs.YtmhjimcdiglpcaaGreatDoor.Dr
open Go.RowKit

def qs (f : Nat → Rat) (N : Nat) : Rat := qsum ((List.range N).map f)
theorem qs_succ (f : Nat → Rat) (N : Nat) : qs f (N + 1) = qs f N + f N := by
  unfold qs
  rw [List.range_succ, List.map_append, List.map_cons, List.map_nil, qsum_snoc]
theorem qs_zero (f : Nat → Rat) : qs f 0 = 0 := by simp [qs, qsum]
theorem qs_congr {f g : Nat → Rat} : ∀ N, (∀ u, u < N → f u = g u) → qs f N = qs g N
  | 0, _ => by rw [qs_zero, qs_zero]
  | N + 1, h => by rw [qs_succ, qs_succ, qs_congr N (fun u hu => h u (by omega)), h N (by omega)]
theorem qs_lin (f g : Nat → Rat) (c : Rat) : ∀ N, qs (fun u => f u + g u * c) N = qs f N + qs g N * c
  | 0 => by rw [qs_zero, qs_zero, qs_zero]; grind
  | N + 1 => by rw [qs_succ, qs_succ, qs_succ, qs_lin f g c N]; grind
theorem qsum_filter (p : Nat → Bool) (f : Nat → Rat) : ∀ N, qsum (((List.range N).filter p).map f) = qs (fun u => if p u = true then f u else 0) N
  | 0 => by simp [qs, qsum]
  | N + 1 => by
    rw [qs_succ, List.range_succ, List.filter_append, List.map_append]
    by_cases h : p N = true
    · rw [if_pos h, ← qsum_filter p f N]
      simp only [List.filter_cons, List.filter_nil, h, if_true, List.map_cons, List.map_nil]
      exact qsum_snoc _ _
    · have h' : p N = false := by cases e : p N <;> simp_all
      rw [if_neg h, ← qsum_filter p f N]
      simp only [List.filter_cons, List.filter_nil, h', Bool.false_eq_true, if_false, List.map_nil, List.append_nil]
      grind
theorem zsum : ∀ N, qs (fun _ => 0) N = 0
  | 0 => qs_zero _
  | N + 1 => by rw [qs_succ, zsum N]; grind
/-- the mean behind j parts -/
def meanQ (W : Nat → Rat) (ac : Nat → Nat → Int) (A : Int) (N j : Nat) : Rat := qs (fun u => W u * fq (ac u j) A) N
theorem mean_zero {N m L : Nat} {A : Int} {bd ln : Nat → Int} {DB : Nat → List Nat} {ac : Nat → Nat → Int} (P : Parts N m L A bd ln DB ac) (W : Nat → Rat) : meanQ W ac A N 0 = 0 := by
  unfold meanQ
  rw [qs_congr (g := fun _ => 0) N (fun u _ => by rw [P.ac0 u, fq_zero P.ab.1]; grind)]
  exact zsum N
theorem mean_succ {N m L : Nat} {A : Int} {bd ln : Nat → Int} {DB : Nat → List Nat} {ac : Nat → Nat → Int} (P : Parts N m L A bd ln DB ac) (W : Nat → Rat) {j : Nat} (hj : j < L) (hf : DB j = (List.range N).filter (fun u => decide (u ∈ DB j))) :
    meanQ W ac A N (j + 1) = meanQ W ac A N j + qsum ((DB j).map W) * fq (ln j) A := by
  have e : qsum ((DB j).map W) = qs (fun u => if u ∈ DB j then W u else 0) N := by
    have h := qsum_filter (fun u => decide (u ∈ DB j)) W N
    rw [← hf] at h
    rw [h]
    exact qs_congr N (fun u _ => by simp)
  unfold meanQ
  rw [e, ← qs_lin]
  refine qs_congr N (fun u _ => ?_)
  have h0 := P.acb u j (by omega)
  have hl : 0 ≤ ln j := by have := P.hln j; have := (P.hbd j hj).2.1; omega
  rw [P.acs u j]
  by_cases h : u ∈ DB j
  · rw [if_pos h, if_pos h, ← fq_add P.ab.1 h0.1 hl]; grind
  · rw [if_neg h, if_neg h, Int.add_zero]; grind
theorem mean_end {N m L : Nat} {A : Int} {bd ln : Nat → Int} {DB : Nat → List Nat} {ac : Nat → Nat → Int} (_ : Parts N m L A bd ln DB ac) {V Q : Nat → Rat} (hQ : ∀ u, u < N → fq (ac u L) A = Q u) (hn : ∀ u, u < N → Q u ≠ 0) : meanQ (fun u => V u / Q u) ac A N L = qs V N := by
  unfold meanQ
  refine qs_congr N (fun u hu => ?_)
  rw [hQ u hu]
  exact Rat.div_mul_cancel (hn u hu)
theorem filt_drB (x : Nat → Int) (C : List Nat) (M A b : Int) (N : Nat) : drB x C M A b N = (List.range N).filter (fun u => decide (u ∈ drB x C M A b N)) := by
  conv => lhs; unfold drB
  apply List.filter_congr
  intro u hu
  have hu' : u < N := by simpa using hu
  have h := @drB_mem x C M A b N u
  by_cases hm : u ∈ drB x C M A b N
  · rw [decide_eq_true hm]
    have := (h.1 hm).2
    simpa using this
  · rw [decide_eq_false hm]
    have : ¬ (u ∈ C ∨ pbI A b (lays x C M u).2 < pbI A b ((lays x C M u).2 + x u * M)) := fun hh => hm (h.2 ⟨hu', hh⟩)
    simpa using this
theorem estL_map (V Q : Nat → Rat) (l : List Nat) : estL (l.map V) (l.map Q) = l.map (fun u => V u / Q u) := by
  unfold estL
  induction l with
  | nil => rfl
  | cons u l ih => simp only [List.map_cons, List.zipWith_cons_cons, ih]
theorem est_draw {V Q : Nat → Rat} {l : List Nat} (h0 : 1 ≤ l.length) (hg : ∀ u ∈ l, goodp (Q u) = true) : estE (l.map V) (l.map Q) = 0 ∧ estQ (l.map V) (l.map Q) = qsum (l.map (fun u => V u / Q u)) := by
  have h := est_good (qs := l.map V) (ps := l.map Q) (by simpa using h0) (by simp) (fun i hi => by
    have hil : i < l.length := by simpa using hi
    have := hg l[i] (List.getElem_mem hil)
    simpa [List.getD, hil] using this)
  rw [estL_map] at h
  exact h
theorem inc_good {N : Nat} {x : Nat → Int} {od : List Nat} {m K : Nat} (h : Ord N x od) (c : Cert N x od m K) (hx : ∀ i, i < N → 1 ≤ x i ∧ x i ≤ 1099511627776) (hm : 1 ≤ m) (hmN : m ≤ N) {u : Nat} (hu : u < N) : goodp (incQ x od K ((m : Int) - (K : Int)) u) = true := by
  have := (prob_facts h c hx hm hmN).1 u hu
  unfold goodp
  rw [decide_eq_true (by omega), decide_eq_true this.2]
  rfl
end Go.Proofs.YtmhjimcdiglpcaaGreatDoor.Dr
/- The sanity check of the whole's laws: two texts of numbers. -/
namespace Go.Proofs.YtmhjimcdiglpcaaGreatDoor
open Go.RowKit
theorem dec_70 : Lib.decDigits 70 = [55, 48] := by
  repeat (rw [dec_big (by omega)])
  rw [dec_small (by omega)]
  rfl
set_option maxHeartbeats 2000000 in
set_option maxRecDepth 100000 in
theorem Format_seven (ao bo : Option Addr) (n ca m cb k : Nat) (q : Rat) (w : World) (h : RQ w false ao n ca bo m cb q k) (hk : k ≤ 100000) (hq : ru (rn q) q.den (10 ^ 1) = 70) (htab : Tab w) :
    Calls Tryz.prog 38 #[.agg #[.bool false, .slice ao n ca, .slice bo m cb], .int .i64 1] w fun e w' => e = .returned (.string ⟨#[55, 46, 48]⟩) ∧ Below w.heap.size w w' := by
  have B0 := below_new w (.cells #[.bool false, .slice ao n ca, .slice bo m cb] 32)
  have h1 := h.below B0
  have hs1 : (w.alloc (.cells #[.bool false, .slice ao n ca, .slice bo m cb] 32)).heap.size = w.heap.size + 1 := World.size_alloc _ _
  have BX : Below (w.heap.size + 1) (w.alloc (.cells #[.bool false, .slice ao n ca, .slice bo m cb] 32)) (w.alloc (.cells #[.bool false, .slice ao n ca, .slice bo m cb] 32)) := Below.refl _ _
  have t1 := htab.below B0
  have SC : Hid (∀ w', RQ w' false ao n ca bo m cb q k → Calls Tryz.prog 69 #[.agg #[.bool false, .slice ao n ca, .slice bo m cb], .int .i64 1] w' fun e w'' => Makes 70 w' e w'' ∧ Sm 70 (k + 300)) := fun w' h' => scaled_qi false ao bo n ca m cb k 1 q w' h' hk (by omega) 1 rfl 70 hq
  obtain ⟨R, hR⟩ : ∃ R : Nat, R = 70 := ⟨_, rfl⟩
  rw [← hR] at SC
  have HR := Lib.hid hR
  clear hq h hR
  go_enter Tryz.func38, Tryz.ntmps38
  go_wp2_with fail
  refine (decimals_num 1 1 (by omega) _).mono ?_; rintro e w' ⟨rfl, rfl⟩
  go_wp2_with fail
  refine (SC.out _ h1).mono ?_; rintro e w2 ⟨⟨a2, c2, rfl, f2, b2⟩, sR⟩
  rw [hs1] at b2
  replace BX := BX.trans b2
  have t2 := t1.below (hs1.symm ▸ b2)
  go_wp2_with fail
  refine (Format_num (Num.of_fr f2 sR) t2).mono ?_; rintro e w3 ⟨rfl, b3⟩
  rw [show Lib.decDigits R = [55, 48] by rw [HR.out]; exact dec_70]
  have hz := BX.size
  rw [hs1] at hz
  replace BX := BX.trans (b3.mono hz)
  obtain ⟨e0, e1, e2⟩ := boxC BX
  have DR := Lib.hid (show ¬ (0 : Int) = ((dig R).length : Nat) by have := dig_length_pos (show 0 < R by have := HR.out; omega); omega)
  clear e1 e2 f2
  go_wp2_with fail
  refine (repeat_any 0 _ (by omega) _ (by decide)).mono ?_; rintro e w4 ⟨rfl, b4⟩
  rw [show (List.replicate 0 (48 : UInt8)).toArray = #[] from rfl]
  have hz3 := BX.size
  rw [hs1] at hz3
  replace BX := BX.trans (b4.mono hz3)
  obtain ⟨g0, _⟩ := boxC BX
  clear e0
  go_wp2_with fail
  try rw [show (({ data := #[] } : ByteArray) ++ { data := #[55, 48] }) = { data := #[55, 48] } from rfl]
  go_quiet (fail)
  go_wp2_with fail
  go_ret
  exact ⟨by rfl, below_drewN (B0.trans (BX.mono (by omega))) nq⟩
theorem seven_units : ru (rn (rq (decide ((7 : Int) < 0)) (7 : Int).natAbs 1)) (rq (decide ((7 : Int) < 0)) (7 : Int).natAbs 1).den (10 ^ 1) = 70 := by decide +kernel
theorem seven_sign : rs (rq (decide ((7 : Int) < 0)) (7 : Int).natAbs 1) = false := by decide +kernel
set_option maxHeartbeats 4000000 in
set_option maxRecDepth 100000 in
theorem awakeT_any (w : World) (htab : Tab w) : Calls Tryz.prog 16 #[] w fun e w' => e = .returned (.bool true) ∧ Below w.heap.size w w' := by
  have U := Lib.hid seven_units
  have S := Lib.hid seven_sign
  obtain ⟨q7, hq7⟩ : ∃ q, q = rq (decide ((7 : Int) < 0)) (7 : Int).natAbs 1 := ⟨_, rfl⟩
  have F7 : Hid (∀ w, Calls Tryz.prog 23 #[.int .i64 7] w (MakesQ q7 2 w)) := fun w => by rw [hq7]; exact rFromInt_q 7 (by omega) (by omega) w
  unfold Hid at U S
  rw [← hq7] at U S
  have U := Lib.hid U
  have S := Lib.hid S
  clear hq7
  have s3 := rd_new w #[.int .u32 0, .int .u32 1] [0, 1] rfl (lims_cons (by omega) (lims_cons (by omega) lims_nil)) 2 rfl (by omega)
  have hb1 : Below w.heap.size w (w.alloc (.cells #[.int .u32 0, .int .u32 1] 71)) := (Below.refl _ _).alloc (Nat.le_refl _) _
  have ht1 := htab.below hb1
  have hfm := Format_any _ _ [0, 1] _ s3 (by decide) ht1
  rw [show val [0, 1] = 4294967296 by simp [val], dec_big_num] at hfm
  have FM := Lib.hid hfm
  have HB1 := Lib.hid hb1
  have HT1 := Lib.hid ht1
  clear hfm hb1 ht1 s3 htab
  go_enter Tryz.func16, Tryz.ntmps16
  go_wp2_with fail
  refine FM.out.mono ?_
  rintro e w4 ⟨rfl, b4⟩
  have HB4 := Lib.hid (HB1.out.trans (b4.mono HB1.out.size))
  have HT4 := Lib.hid (HT1.out.below b4)
  clear b4 FM
  go_wp2_with fail
  refine (F7.out _).mono ?_
  rintro e w5 ⟨s5, a5, n5, c5, o5, m5, d5, rfl, cq5, b5⟩
  obtain rfl : s5 = false := by rw [cq5.1]; exact S.out
  have FVV := Lib.hid (Format_seven a5 o5 n5 c5 m5 d5 2 q7 w5 cq5.rq (by omega) U.out (HT4.out.below b5))
  have HB5 := Lib.hid (HB4.out.trans (b5.mono HB4.out.size))
  clear cq5 b5
  go_wp2_with fail
  refine FVV.out.mono ?_
  rintro e w6 ⟨rfl, b6⟩
  have HB6 := Lib.hid (HB5.out.trans (b6.mono HB5.out.size))
  clear b6
  go_wp2
  go_ret
  exact ⟨rfl, HB6.out⟩
end Go.Proofs.YtmhjimcdiglpcaaGreatDoor
