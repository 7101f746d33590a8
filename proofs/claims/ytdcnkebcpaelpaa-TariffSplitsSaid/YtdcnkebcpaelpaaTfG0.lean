import Derived.Test.YtdcnkebcpaelpaaProg
import Derived.WalkKit
import Derived.OrdersIn
import Derived.TacticsIn
import Derived.RangeFuncCalls
import Derived.Test.YtdcnkebcpaelpaaTfA0
import Derived.Test.YtdcnkebcpaelpaaBoxA
import Derived.Test.YtdcnkebcpaelpaaRatsE
import Derived.Test.YtdcnkebcpaelpaaRatsD
import Derived.Test.YtdcnkebcpaelpaaRatsB
/- A drawn region in a round of a range over a function: the rule of the plain walk serves there too, for no operation of it is a defer statement. -/
namespace Go.Proofs.Ytdcnkebcpaelpaa
open Go.RowKit

def noDefer (o : Oper) : Bool := match o.op with
  | .defer _ => false
  | _ => true
section
variable {P : Program} {ops : Array Oper} {Q : Exit → Act → World → Prop} {md : Region.Mode} {l n : Nat}

theorem operIn_of {o : Oper} (hd : noDefer o = true) {a : Act} {w : World} {K : Act → World → Prop} (h : o.wp P a w K Q) : o.wpIn (Fence.wide.inRound l) n P a w K Q := by
  have hnd : ∀ c, o.op ≠ .defer c := fun c e => by unfold noDefer at hd; rw [e] at hd; cases hd
  refine ⟨fun _ _ => trivial, ?_⟩
  unfold Oper.wp at h
  show o.uponIn (Fence.wide.inRound l) n P a K Q ((o.semAt (some l) a.eval).run P w)
  rw [Oper.semAt_some l _ _ hnd]
  generalize (execOp a.eval o).run P w = r at *
  cases r with
  | ok x w' =>
    cases x <;> simp only [Oper.upon, Oper.uponIn] at h ⊢ <;>
      first
        | exact h
        | exact ⟨fun hh => by simp [Fence.wide] at hh, CallsIn.inRound l (callsIn_wide.2 h)⟩
        | exact ⟨fun hh => by simp [Fence.wide] at hh, fun c cs _ => let ⟨v, w2, r, s⟩ := h c cs; ⟨v, w2, r, stepsIn_wide.2 s⟩⟩
        | exact h.elim
  | halt x w' => cases x <;> simp only [Oper.upon, Oper.uponIn] at h ⊢ <;> first | exact h | exact h.elim
theorem wpOpIn_of (hd : ∀ (i : Nat) (o : Oper), ops[i]? = some o → noDefer o = true) (hL : ¬ LetsOut Q) {i : Nat} {a : Act} {w : World} {K : Act → World → Prop} (h : wpOp P ops Q i K a w) : wpOpIn (Fence.wide.inRound l) n P ops Q i K a w := by
  unfold wpOp at h
  unfold wpOpIn
  cases ho : ops[i]? with
  | none => rw [ho] at h; exact h
  | some o =>
    rw [ho] at h
    simp only at h ⊢
    split
    · rename_i hw
      rw [if_pos hw] at h
      rcases h with h | h
      · exact operIn_of (hd i o ho) h
      · exact absurd h.2 hL
    · rename_i hw
      rw [if_neg hw] at h
      exact ⟨fun _ _ => trivial, h⟩
theorem wpAnyIn_of (hd : ∀ (i : Nat) (o : Oper), ops[i]? = some o → noDefer o = true) (hL : ¬ LetsOut Q) : ∀ (fuel : Nat) (ls : Array Bool) (a : Act) (w : World), wpAny P md ops Q fuel ls a w → wpAnyIn (Fence.wide.inRound l) n P md ops Q fuel ls a w := by
  intro fuel
  induction fuel with
  | zero => intro ls a w h; exact h
  | succ fuel ih =>
    intro ls a w h
    exact ⟨h.1, fun i hi => wpOpIn_mono (fun a w => ih _ a w) (wpOpIn_of hd hL (h.2 i hi))⟩
theorem wp_region_round {id : Nat} {a : Act} {w : World} (hm : P.follows .mixedOrders = true) (hd : ops.all noDefer = true) (hL : ¬ LetsOut Q)
    (h : wpAny P .any ops Q ops.size (Array.replicate ops.size false) a { w with drawn := w.drawn + 1 }) : (Code.region id ops true).wpIn (Fence.wide.inRound l) n P Q a w :=
  wpIn_region_any hm (wpAnyIn_of (fun i o ho => by
    have := Array.all_eq_true.1 hd i (Array.getElem?_eq_some_iff.1 ho).1
    rw [(Array.getElem?_eq_some_iff.1 ho).2] at this
    exact this) hL _ _ _ _ h)
/-- a contract of the shelf, or one of these texts, in a round -/
theorem callsRound {f : FuncId} {args : Array Value} {w : World} {R : Ending → World → Prop} (h : Calls P f args w R) : CallsIn (Fence.wide.inRound l) n P f args w R := CallsIn.inRound l (callsIn_wide.2 h)
end
end Go.Proofs.Ytdcnkebcpaelpaa
/- Layer 14: kit for a loop over an iterator whose body adds numbers up: a box with a number, drawn regions that store into it. -/
namespace Go.Proofs.Ytdcnkebcpaelpaa.T14
open Go.RowKit Go.Shelf C6

/-- the box g holds the number q -/
def BoxN (w : World) (g : Nat) (q : Rat) (k : Nat) : Prop := ∃ s a n c o m d, w.heap[g]? = some (.cells #[.bool s, .slice a n c, .slice o m d] 40 (0, 0)) ∧ CQ 0 w s a n c o m d q k
theorem CQ.grown0 {w w' : World} {B : Nat} {s : Bool} {ao : Option Addr} {n ca : Nat} {bo : Option Addr} {m cb : Nat} {q : Rat} {k : Nat} (h : CQ B w s ao n ca bo m cb q k) {row : Option Nat} (g : w.grownBy w' row) (hr : ∀ r, row = some r → ∃ o : Obj, w.heap[r]? = some o ∧ o.isCells = false) : CQ B w' s ao n ca bo m cb q k := by
  obtain ⟨h1, h2, h3, h4, h5, h6⟩ := h
  have key : ∀ {ao : Option Addr} {ca : Nat} {xs : List Nat}, Fr B w ao ca xs → Fr B w' ao ca xs := fun hf => hf.grown g (fun a e q => by
    rcases hf.2.2.2 with ⟨h, _⟩ | ⟨b, h, hb, cur, hc, _⟩
    · rw [e] at h; cases h
    · rw [e] at h; cases h
      obtain ⟨o, ho, hn⟩ := hr b q.symm
      rw [hc] at ho; cases ho; cases hn)
  exact ⟨h1, h2, h3, key h4, key h5, h6⟩
theorem cells_grown {w w' : World} {g : Nat} {vs : Array Value} {t : TypeId} {mk : Nat × Nat} (h : w.heap[g]? = some (.cells vs t mk)) {row : Option Nat} (k : w.grownBy w' row) (hr : ∀ r, row = some r → ∃ o : Obj, w.heap[r]? = some o ∧ o.isCells = false) : w'.heap[g]? = some (.cells vs t mk) :=
  (k.block g (Array.getElem?_eq_some_iff.1 h).1 (fun e => by
    obtain ⟨o, ho, hn⟩ := hr g e.symm
    rw [h] at ho; cases ho; cases hn)).trans h
theorem BoxN.grown {w w' : World} {g : Nat} {q : Rat} {k : Nat} (h : BoxN w g q k) {row : Option Nat} (hg : w.grownBy w' row) (hr : ∀ r, row = some r → ∃ o : Obj, w.heap[r]? = some o ∧ o.isCells = false) : BoxN w' g q k := by
  obtain ⟨s, a, n, c, o, m, d, h1, h2⟩ := h
  exact ⟨s, a, n, c, o, m, d, cells_grown h1 hg hr, CQ.grown0 h2 hg hr⟩
theorem BoxN.below {w w' : World} {g : Nat} {q : Rat} {k : Nat} (h : BoxN w g q k) (hb : Below w.heap.size w w') : BoxN w' g q k := by
  obtain ⟨s, a, n, c, o, m, d, h1, h2⟩ := h
  exact ⟨s, a, n, c, o, m, d, carry h1 hb, h2.below hb⟩
theorem BoxN.own {β : Type} (g k : Nat) (f : β → Rat) : Go.Own (fun s W => BoxN W g (f s) k) := fun _ _ _ _ hs hg hr => hs.grown hg hr

theorem ExtT.trans {t : TypeId} {n : Nat} {a b c : World} (h : ExtT t n a b) (k : ExtT t n b c) : ExtT t n a c := by
  refine ⟨h.1.trans k.1, fun i hi => ?_⟩
  have hi2 : i < b.heap.size := Nat.lt_of_lt_of_le hi h.1.size
  rcases h.2 i hi with e | ⟨e1, e2⟩
  · rcases k.2 i hi2 with e' | ⟨⟨u, v, x, f1⟩, f2⟩
    · exact .inl (e'.trans e)
    · exact .inr ⟨⟨u, v, x, e.symm.trans f1⟩, f2⟩
  · rcases k.2 i hi2 with e' | ⟨f1, f2⟩
    · obtain ⟨u, v, x, e2⟩ := e2
      exact .inr ⟨e1, ⟨u, v, x, e'.trans e2⟩⟩
    · exact .inr ⟨e1, f2⟩
theorem ExtT.keeps {t : TypeId} {n B : Nat} {a b : World} (h : ExtT t n a b) : KeepsFrom B a b :=
  ⟨h.1.size, fun i o _ ho hn => by
    rcases h.2 i (Array.getElem?_eq_some_iff.1 ho).1 with e | ⟨⟨u, v, x, e⟩, _⟩
    · exact e.trans ho
    · rw [ho] at e; cases e; cases hn⟩
/-- a block of another type stands -/
theorem ExtT.other {t u : TypeId} (hu : u ≠ t) {n i : Nat} {a b : World} {vs : Array Value} (h : ExtT t n a b) (hv : a.heap[i]? = some (.cells vs u (0, 0))) : b.heap[i]? = some (.cells vs u (0, 0)) := by
  rcases h.2 i (Array.getElem?_eq_some_iff.1 hv).1 with e | ⟨⟨x, y, z, e⟩, _⟩
  · exact e.trans hv
  · rw [hv] at e; cases e; exact absurd rfl hu
theorem ExtT.drewT {t : TypeId} {n : Nat} {a b : World} (h : ExtT t n a b) : ExtT t n a b.drew := ⟨h.1.drew, h.2⟩
theorem BoxN.of {w : World} {g : Nat} {v : Value} {q : Rat} {k : Nat} (h : HoldsT 40 w (.pointer (some ⟨g, 0, none⟩)) v) (hq : IsQ q k v w) : BoxN w g q k := by
  obtain ⟨g', a, b, c, e, rfl, h⟩ := h
  cases e
  obtain ⟨s, ao, n, ca, bo, m, cb, e2, hq⟩ := hq
  cases e2
  exact ⟨s, ao, n, ca, bo, m, cb, h, hq⟩
theorem keeps_below {B : Nat} {a b : World} (h : Below a.heap.size a b) : KeepsFrom B a b := ⟨h.size, fun i _ _ ho _ => (h.block i (Array.getElem?_eq_some_iff.1 ho).1).trans ho⟩
/-- the stretch's box -/
def StBox (w : World) (B : Nat) (bs : List (Int × Int)) (i : Nat) : Prop := w.heap[B]? = some (.cells #[.int .i64 (prev bs i), .int .i64 (hiI bs i), .int .i64 (prc bs i)] 74 (0, 0))
theorem StBox.cells {w : World} {B : Nat} {bs : List (Int × Int)} {i : Nat} (h : StBox w B bs i) : w.cell? ⟨B, 0, none⟩ = some (.int .i64 (prev bs i)) ∧ w.cell? ⟨B, 1, none⟩ = some (.int .i64 (hiI bs i)) ∧ w.cell? ⟨B, 2, none⟩ = some (.int .i64 (prc bs i)) := by
  unfold StBox at h
  refine ⟨?_, ?_, ?_⟩ <;> simp [World.cell?, h]

theorem int_num (z : Int) : (z : Rat).num = z ∧ (z : Rat).den = 1 := ⟨rfl, rfl⟩
/-- a whole number of few limbs -/
theorem int_sm {z : Int} {k : Nat} (h : z.natAbs < pw k) (hk : 1 ≤ k) (hk2 : k ≤ 1000) : Sm (rn (z : Rat)) k ∧ Sm (z : Rat).den k := by
  refine ⟨⟨h, by omega⟩, ⟨?_, by omega⟩⟩
  show 1 < pw k
  have : pw 1 ≤ pw k := pw_mono hk
  have e : pw 1 = 4294967296 := rfl
  omega
theorem rq_int (n : Int) : rq (decide (n < 0)) n.natAbs 1 = (n : Rat) := by
  unfold rq sg
  by_cases h : n < 0
  · rw [if_pos (by simpa using h)]
    have : -((n.natAbs : Nat) : Int) = n := by omega
    rw [this]
    exact (Rat.mkRat_one n)
  · rw [if_neg (by simpa using h)]
    have : ((n.natAbs : Nat) : Int) = n := by omega
    rw [this]
    exact (Rat.mkRat_one n)
/-- what a function gives that returns a number -/
def Mk (q : Rat) (k : Nat) (w : World) (e : Ending) (w' : World) : Prop := ∃ v, e = .returned v ∧ IsQ q k v w' ∧ Below w.heap.size w w'
theorem fits {z : Int} {k : Nat} {w w' : World} {e : Ending} (h : MakesQ (z : Rat) k w e w') (hz : z.natAbs < pw 5) : Mk (z : Rat) 5 w e w' := by
  obtain ⟨s, ao, n, ca, bo, m, cb, he, hq, hb⟩ := h
  exact ⟨_, he, ⟨s, ao, n, ca, bo, m, cb, rfl, (hq.resize (int_sm hz (by omega) (by omega)).1 (int_sm hz (by omega) (by omega)).2).mono (Nat.zero_le _)⟩, hb⟩
theorem pw5 : pw 5 = 1461501637330902918203684832716283019655932542976 := by decide
/-- a value that stands for a whole number -/
def ZV (v : Value) (w : World) (z : Int) : Prop := IsQ (z : Rat) 5 v w
theorem ZV.below {v : Value} {w w' : World} {z : Int} (h : ZV v w z) (hb : Below w.heap.size w w') : ZV v w' z := by
  obtain ⟨s, ao, n, ca, bo, m, cb, rfl, h⟩ := h
  exact ⟨s, ao, n, ca, bo, m, cb, rfl, h.below hb⟩
theorem fromInt_z (n : Int) (h0 : -9223372036854775808 ≤ n) (h1 : n ≤ 9223372036854775807) (w : World) : Calls Try.prog 46 #[.int .i64 n] w (Mk (n : Rat) 5 w) :=
  (FromInt_q n h0 h1 w).mono fun e w' h => fits (by rwa [rq_int] at h) (by rw [pw5]; omega)
theorem rFromInt_z (n : Int) (h0 : -9223372036854775808 ≤ n) (h1 : n ≤ 9223372036854775807) (w : World) : Calls Try.prog 19 #[.int .i64 n] w (Mk (n : Rat) 5 w) :=
  (rFromInt_q n h0 h1 w).mono fun e w' h => fits (by rwa [rq_int] at h) (by rw [pw5]; omega)
theorem mul_z {u v : Value} {x y : Int} {w : World} (hu : ZV u w x) (hv : ZV v w y) (hz : (x * y).natAbs < pw 5) : Calls Try.prog 63 #[u, v] w (Mk ((x * y : Int) : Rat) 5 w) := by
  obtain ⟨s, ao, n, ca, bo, m, cb, rfl, h1⟩ := hu
  obtain ⟨t, po, l, cl, qo, j, cj, rfl, h2⟩ := hv
  exact (Mul_q _ _ _ _ _ _ _ _ _ _ _ _ _ _ 5 _ _ w h1.rq h2.rq (by omega)).mono fun e w' h => fits (by rwa [← Rat.intCast_mul] at h) hz
theorem rMul_z {u v : Value} {x y : Int} {w : World} (hu : ZV u w x) (hv : ZV v w y) (hz : (x * y).natAbs < pw 5) : Calls Try.prog 20 #[u, v] w (Mk ((x * y : Int) : Rat) 5 w) := by
  obtain ⟨s, ao, n, ca, bo, m, cb, rfl, h1⟩ := hu
  obtain ⟨t, po, l, cl, qo, j, cj, rfl, h2⟩ := hv
  exact (rMul_q _ _ _ _ _ _ _ _ _ _ _ _ _ _ 5 _ _ w h1.rq h2.rq (by omega)).mono fun e w' h => fits (by rwa [← Rat.intCast_mul] at h) hz
theorem add_z {u v : Value} {x y : Int} {w : World} (hu : ZV u w x) (hv : ZV v w y) (hz : (x + y).natAbs < pw 5) : Calls Try.prog 44 #[u, v] w (Mk ((x + y : Int) : Rat) 5 w) := by
  obtain ⟨s, ao, n, ca, bo, m, cb, rfl, h1⟩ := hu
  obtain ⟨t, po, l, cl, qo, j, cj, rfl, h2⟩ := hv
  exact (Add_q _ _ _ _ _ _ _ _ _ _ _ _ _ _ 5 _ _ w h1.rq h2.rq (by omega)).mono fun e w' h => fits (by rwa [← Rat.intCast_add] at h) hz
theorem rAdd_z {u v : Value} {x y : Int} {w : World} (hu : ZV u w x) (hv : ZV v w y) (hz : (x + y).natAbs < pw 5) : Calls Try.prog 29 #[u, v] w (Mk ((x + y : Int) : Rat) 5 w) := by
  obtain ⟨s, ao, n, ca, bo, m, cb, rfl, h1⟩ := hu
  obtain ⟨t, po, l, cl, qo, j, cj, rfl, h2⟩ := hv
  exact (rAdd_q _ _ _ _ _ _ _ _ _ _ _ _ _ _ 5 _ _ w h1.rq h2.rq (by omega)).mono fun e w' h => fits (by rwa [← Rat.intCast_add] at h) hz
theorem wrap_mid {c : Int} (h0 : 0 ≤ c) (h1 : c ≤ 9223372036854775807) : IntKind.i64.wrap c = c := by
  rw [IntKind.wrap_i64]
  omega
/-- at the end of a function that holds a loop over an iterator: the result's box is filled, the loop's mark is taken -/
theorem fin_mark {W0 W : World} {rg D n : Nat} {s : Bool} {a : Option Addr} {nn c : Nat} {o : Option Addr} {m d : Nat} {u v x : Value} {q : Rat} {k : Nat} (hr : W.heap[rg]? = some (.cells #[u, v, x] 40 (0, 0))) (hq : CQ 0 W s a nn c o m d q k) (hK : W.heap[D]? = some (.deferred (some []))) (hb : Below n W0 W) (hnw : n ≤ W0.heap.size) (hn : n ≤ rg) (hD : n ≤ D) :
    (((W.setCell ⟨rg, 0, none⟩ (.bool s)).setCell ⟨rg, 1, none⟩ (.slice a nn c)).setCell ⟨rg, 2, none⟩ (.slice o m d)).heap[D]? = some (.deferred (some [])) ∧
    ((((W.setCell ⟨rg, 0, none⟩ (.bool s)).setCell ⟨rg, 1, none⟩ (.slice a nn c)).setCell ⟨rg, 2, none⟩ (.slice o m d)).putObj D (.deferred none)).heap[rg]? = some (.cells #[.bool s, .slice a nn c, .slice o m d] 40 (0, 0)) ∧
    IsQ q k (.agg #[.bool s, .slice a nn c, .slice o m d]) ((((W.setCell ⟨rg, 0, none⟩ (.bool s)).setCell ⟨rg, 1, none⟩ (.slice a nn c)).setCell ⟨rg, 2, none⟩ (.slice o m d)).putObj D (.deferred none)) ∧
    Below n W0 ((((W.setCell ⟨rg, 0, none⟩ (.bool s)).setCell ⟨rg, 1, none⟩ (.slice a nn c)).setCell ⟨rg, 2, none⟩ (.slice o m d)).putObj D (.deferred none)) := by
  have hne : D ≠ rg := fun e => by rw [e, hr] at hK; cases hK
  have hb8 : Below n W0 (((W.setCell ⟨rg, 0, none⟩ (.bool s)).setCell ⟨rg, 1, none⟩ (.slice a nn c)).setCell ⟨rg, 2, none⟩ (.slice o m d)) := below3 hb hn _ _ _
  have hE : ExtT 40 0 W (((W.setCell ⟨rg, 0, none⟩ (.bool s)).setCell ⟨rg, 1, none⟩ (.slice a nn c)).setCell ⟨rg, 2, none⟩ (.slice o m d)) := ExtT.set3 ⟨_, _, _, hr⟩ (Nat.zero_le _) _ _ _
  have h8 := set3_at hr (.bool s) (.slice a nn c) (.slice o m d)
  have hq8 := CQ.extT (by decide) hq hE
  have k8 : (((W.setCell ⟨rg, 0, none⟩ (.bool s)).setCell ⟨rg, 1, none⟩ (.slice a nn c)).setCell ⟨rg, 2, none⟩ (.slice o m d)).heap[D]? = some (.deferred (some [])) := (set3_off hne _ _ _).trans hK
  generalize (((W.setCell ⟨rg, 0, none⟩ (.bool s)).setCell ⟨rg, 1, none⟩ (.slice a nn c)).setCell ⟨rg, 2, none⟩ (.slice o m d)) = W8 at *
  have hg := grownBy_putObj' W8 D (.deferred none)
  have hrow : ∀ r, some D = some r → ∃ o : Obj, W8.heap[r]? = some o ∧ o.isCells = false := fun r e => by cases e; exact ⟨_, k8, rfl⟩
  refine ⟨k8, cells_grown h8 hg hrow, ⟨_, _, _, _, _, _, _, rfl, CQ.grown0 hq8 hg hrow⟩, hb8.grown hg (Nat.le_trans hnw hb8.size) (fun r e => by cases e; exact hD)⟩
end Go.Proofs.Ytdcnkebcpaelpaa.T14
/- Layer 14: tariff.times. -/
namespace Go.Proofs.Ytdcnkebcpaelpaa.T14
open Go.RowKit Go.Shelf C6

set_option maxHeartbeats 8000000 in
set_option maxRecDepth 100000 in
theorem times_z (c z : Int) (hc0 : -9223372036854775808 ≤ c) (hc1 : c ≤ 9223372036854775807) (v : Value) (w : World) (hv : ZV v w z) (hz : (c * z).natAbs < pw 5) :
    Calls Try.prog 45 #[.int .i64 c, v] w (Mk ((c * z : Int) : Rat) 5 w) := by
  have hv' := hv
  obtain ⟨s, a, n, ca, o, m, d, rfl, hq⟩ := hv
  obtain ⟨W1, hW1⟩ : ∃ W1, W1 = w.alloc (.cells #[.bool s, .slice a n ca, .slice o m d] 40) := ⟨_, rfl⟩
  obtain ⟨W2, hW2⟩ : ∃ W2, W2 = W1.alloc (.cells #[.bool false, .slice none 0 0, .slice none 0 0] 40) := ⟨_, rfl⟩
  have x1 : W1.heap[w.heap.size]? = some (.cells #[.bool s, .slice a n ca, .slice o m d] 40 (0, 0)) := by rw [hW1]; exact heap_alloc_new _ _
  have b1 : Below w.heap.size w W1 := by rw [hW1]; exact below_new w _
  have b2 : Below W1.heap.size W1 W2 := by rw [hW2]; exact below_new W1 _
  have hs1 : W1.heap.size = w.heap.size + 1 := by rw [hW1]; simp
  obtain ⟨g, hg⟩ : ∃ g, g = W1.heap.size := ⟨_, rfl⟩
  have XG : Hid (W2.heap[g]? = some (.cells #[.bool false, .slice none 0 0, .slice none 0 0] 40 (0, 0))) := by rw [hW2, hg]; exact heap_alloc_new _ _
  have x2 := carry x1 b2
  have HB : Hid (Below w.heap.size w W2) := b1.trans (b2.mono b1.size)
  have hv2 : ZV (.agg #[.bool s, .slice a n ca, .slice o m d]) W2 z := hv'.below HB.out
  have HV : Hid (∀ w1, ExtT 40 g W2 w1 → IsQ ((z : Int) : Rat) 5 (.agg #[.bool s, .slice a n ca, .slice o m d]) w1) := fun w1 h => IsQ.extT (by decide) hv2 h
  have HK : Hid (∀ w1, ExtT 40 g W2 w1 → w1.cell? ⟨w.heap.size, 0, none⟩ = some (.bool s) ∧ w1.cell? ⟨w.heap.size, 1, none⟩ = some (.slice a n ca) ∧ w1.cell? ⟨w.heap.size, 2, none⟩ = some (.slice o m d)) := fun w1 h => by
    obtain ⟨c0, c1, c2, _⟩ := at_block x2
    exact ⟨(h.1.cell (p := ⟨w.heap.size, 0, none⟩) (by show w.heap.size < g; omega)).trans c0, (h.1.cell (p := ⟨w.heap.size, 1, none⟩) (by show w.heap.size < g; omega)).trans c1, (h.1.cell (p := ⟨w.heap.size, 2, none⟩) (by show w.heap.size < g; omega)).trans c2⟩
  have HC : Hid (-9223372036854775808 ≤ c ∧ c ≤ 9223372036854775807) := ⟨hc0, hc1⟩
  have HZ := Lib.hid hz
  have HGW : Hid (w.heap.size ≤ g ∧ g ≤ W2.heap.size) := ⟨by omega, by rw [hg]; exact b2.size⟩
  have hgw : Hid (w.heap.size + 1 = g) := by unfold Hid; omega
  clear hg
  clear hv' hq x1 x2 b1 b2 hv2 hc0 hc1 hz hs1
  go_enter Try.func45, Try.ntmps45
  go_wp2_with fail
  rw [← hW1]
  try rw [← hW2]
  try rw [hgw.out]
  clear hW1 hW2 hgw
  refine wp_region_any (by kernel_rfl) ?_
  refine region_ssa [5, 6, 7, 8] (ExtT 40 g W2) (ExtT 40 g) (LsP [kV (.int .i64 c), kQ (((c : Int) : Rat)) (5), kQ (((z : Int) : Rat)) (5), kQ (((c * z : Int) : Rat)) (5), kAny]) (fun D f w1 => (D 4 = false → w1.heap[g]? = some (.cells #[.bool false, .slice none 0 0, .slice none 0 0] 40 (0, 0))) ∧ (D 4 = true → HoldsT 40 w1 (.pointer (some ⟨g, 0, none⟩)) (f 8))) (fun f => rfl) (by kernel_rfl) (by kernel_rfl) ?_ ?_ ?_ ?_ (AllFrom.below (n := 5) ?_) ?_
  · exact ExtT.drewT (ExtT.refl 40 g _)
  · intro f; exact ⟨fun _ => XG.out, fun h => (by cases h)⟩
  · intro jx vx w1 w2 _ h hE; exact LsP.ext (StTL.all (l := [kV (.int .i64 c), kQ (((c : Int) : Rat)) (5), kQ (((z : Int) : Rat)) (5), kQ (((c * z : Int) : Rat)) (5), kAny]) ⟨StT.v _ _, StT.q (by decide) _ _, StT.q (by decide) _ _, StT.q (by decide) _ _, StT.any _, trivial⟩) jx vx w1 w2 h hE
  · intro w1 w2 hB hE; exact ExtT.trans hB hE
  · refine AllFrom.step (m := 4) (j := 1) rfl ?_ ?_
    · intro D f w1 hD hB hR hp hcl hX
      have hbx := hX.1 (eq_false_of_ne_true (no_of (D := D) (hcl 4) (by kernel_rfl) hD))
      have HBX := Lib.hid hbx
      have HEB := Lib.hid hB
      have hgs : g < w1.heap.size := (Array.getElem?_eq_some_iff.1 hbx).1
      have hnov := Lib.hid (no_of (D := D) (hcl 4) (by kernel_rfl) hD)
      clear hX hR hp hbx hB hcl
      refine wpOp_step rfl (fun K hK => ?_)
      simp only [putAll, Act.put, List.setIfInBounds_toArray, List.set_cons_succ, List.set_cons_zero]
      go_simp
      exact hK _ _ ⟨.int .i64 c, (by show _ = Act.put _ (some 5) _; simp only [putAll, Act.put, List.setIfInBounds_toArray, List.set_cons_succ, List.set_cons_zero, *]), rfl, ExtT.refl _ _ _, ⟨fun _ => HBX.out, fun h => absurd h hnov.out⟩⟩
    refine AllFrom.step (m := 3) (j := 2) rfl ?_ ?_
    · intro D f w1 hD hB hR hp hcl hX
      have hbx := hX.1 (eq_false_of_ne_true (no_of (D := D) (hcl 4) (by kernel_rfl) hD))
      have HBX := Lib.hid hbx
      have HEB := Lib.hid hB
      have hgs : g < w1.heap.size := (Array.getElem?_eq_some_iff.1 hbx).1
      have e0 : f 5 = .int .i64 c := (hp_at hp 0 (by kernel_rfl)).2
      have hnov := Lib.hid (no_of (D := D) (hcl 4) (by kernel_rfl) hD)
      clear hX hR hp hbx hB hcl
      refine wpOp_step rfl (fun K hK => ?_)
      simp only [putAll, Act.put, List.setIfInBounds_toArray, List.set_cons_succ, List.set_cons_zero]
      go_simp
      refine (fromInt_z c HC.out.1 HC.out.2 _).mono ?_
      rintro e w2 h9
      obtain ⟨v9, rfl, hq9, hb⟩ := h9
      replace hq9 := Lib.hid hq9
      go_simp
      exact hK _ _ ⟨v9, (by show _ = Act.put _ (some 6) _; simp only [putAll, Act.put, List.setIfInBounds_toArray, List.set_cons_succ, List.set_cons_zero, *]), hq9.out, ExtT.of_below hb (Nat.le_of_lt hgs), ⟨fun _ => carry HBX.out hb, fun h => absurd h hnov.out⟩⟩
    refine AllFrom.step (m := 2) (j := 3) rfl ?_ ?_
    · intro D f w1 hD hB hR hp hcl hX
      have hbx := hX.1 (eq_false_of_ne_true (no_of (D := D) (hcl 4) (by kernel_rfl) hD))
      have HBX := Lib.hid hbx
      have HEB := Lib.hid hB
      have hgs : g < w1.heap.size := (Array.getElem?_eq_some_iff.1 hbx).1
      obtain ⟨k0, k1, k2⟩ := HK.out w1 HEB.out
      have hnov := Lib.hid (no_of (D := D) (hcl 4) (by kernel_rfl) hD)
      clear hX hR hp hbx hB hcl
      refine wpOp_step rfl (fun K hK => ?_)
      simp only [putAll, Act.put, List.setIfInBounds_toArray, List.set_cons_succ, List.set_cons_zero]
      go_simp
      exact hK _ _ ⟨_, (by show _ = Act.put _ (some 7) _; simp only [putAll, Act.put, List.setIfInBounds_toArray, List.set_cons_succ, List.set_cons_zero, *]), HV.out w1 HEB.out, ExtT.refl _ _ _, ⟨fun _ => HBX.out, fun h => absurd h hnov.out⟩⟩
    refine AllFrom.step (m := 1) (j := 4) rfl ?_ ?_
    · intro D f w1 hD hB hR hp hcl hX
      have hbx := hX.1 (eq_false_of_ne_true (no_of (D := D) (hcl 4) (by kernel_rfl) hD))
      have HBX := Lib.hid hbx
      have HEB := Lib.hid hB
      have hgs : g < w1.heap.size := (Array.getElem?_eq_some_iff.1 hbx).1
      have q1 : IsQ _ _ (f 6) w1 := (hp_at hp 1 (by kernel_rfl)).2
      obtain ⟨v1, e1⟩ : ∃ v, f 6 = v := ⟨_, rfl⟩
      rw [e1] at q1
      replace q1 := Lib.hid q1
      have q2 : IsQ _ _ (f 7) w1 := (hp_at hp 2 (by kernel_rfl)).2
      obtain ⟨v2, e2⟩ : ∃ v, f 7 = v := ⟨_, rfl⟩
      rw [e2] at q2
      replace q2 := Lib.hid q2
      have hnov := Lib.hid (no_of (D := D) (hcl 4) (by kernel_rfl) hD)
      clear hX hR hp hbx hB hcl
      refine wpOp_step rfl (fun K hK => ?_)
      simp only [putAll, Act.put, List.setIfInBounds_toArray, List.set_cons_succ, List.set_cons_zero]
      go_simp
      refine (mul_z q1.out q2.out HZ.out).mono ?_
      rintro e w2 h9
      obtain ⟨v9, rfl, hq9, hb⟩ := h9
      replace hq9 := Lib.hid hq9
      go_simp
      exact hK _ _ ⟨v9, (by show _ = Act.put _ (some 8) _; simp only [putAll, Act.put, List.setIfInBounds_toArray, List.set_cons_succ, List.set_cons_zero, *]), hq9.out, ExtT.of_below hb (Nat.le_of_lt hgs), ⟨fun _ => carry HBX.out hb, fun h => absurd h hnov.out⟩⟩
    refine AllFrom.step (m := 0) (j := 5) rfl ?_ ?_
    · intro D f w1 hD hB hR hp hcl hX
      have hbx := hX.1 hD
      obtain ⟨s5, a5, n5, c5, o5, m5, d5, ev, hcq⟩ := (hp_at hp 3 (by kernel_rfl)).2
      replace ev : f 8 = _ := ev
      obtain ⟨o0, o1, o2, z0, z1, z2⟩ := at_block hbx
      have HBX : Hid (BoxT 40 w1 g) := ⟨_, _, _, hbx⟩
      clear hX hR hp hbx hcl
      refine wpOp_step rfl (fun K hK => ?_)
      simp only [putAll, Act.put, List.setIfInBounds_toArray, List.set_cons_succ, List.set_cons_zero]
      go_simp
      exact hK _ _ ⟨undef, (by show _ = Act.put _ (none) _; simp only [putAll, Act.put, List.setIfInBounds_toArray, List.set_cons_succ, List.set_cons_zero, *]), trivial, ExtT.set3 HBX.out (Nat.le_refl _) _ _ _, ⟨fun h => absurd (show true = false from h) (by decide), fun _ => by show HoldsT _ _ _ (f 8); rw [ev]; exact HoldsT.new HBX.out _ _ _⟩⟩
    exact AllFrom.nil
  · intro D f w1 hall hB hR hX
    have hbox : BoxN w1 g (((c * z : Int) : Rat)) (5) := BoxN.of (hX.2 (hall 4 (by decide))) (show IsQ _ _ (f 8) w1 from hR 3 (by decide))
    simp only [putAll, Act.put, List.setIfInBounds_toArray, List.set_cons_succ, List.set_cons_zero]
    obtain ⟨s9, a9, n9, c9, o9, m9, d9, h9, q9⟩ := hbox
    obtain ⟨o0, o1, o2, z0, z1, z2⟩ := at_block h9
    have FIN : Hid (Mk ((c * z : Int) : Rat) 5 w (.returned (.agg #[.bool s9, .slice a9 n9 c9, .slice o9 m9 d9])) w1) := ⟨_, rfl, ⟨_, _, _, _, _, _, _, rfl, q9⟩, HB.out.trans (hB.1.mono HGW.out.1)⟩
    clear hX hR hB hall h9 q9
    go_wp2_with fail
    refine bodyPost_ret (v := .agg #[.bool s9, .slice a9 n9 c9, .slice o9 m9 d9]) (by simp [results, Try.results45, go_sem, o0, o1, o2]) rfl ?_
    exact FIN.out
end Go.Proofs.Ytdcnkebcpaelpaa.T14
/- Layer 14: tariff.bill: the bill by a valid tariff. -/
namespace Go.Proofs.Ytdcnkebcpaelpaa.T14
open Go.RowKit Go.Shelf C6
attribute [local go_sem] Oper.semAt_some

/-- the sum over some blocks -/
def accL (st : Int) (bs : List (Int × Int)) (a : Int) (l : List Nat) : Int := l.foldl (fun s i => s + cnt bs a i * prc bs i) st
theorem accL_snoc (st : Int) (bs : List (Int × Int)) (a : Int) (l : List Nat) (i : Nat) : accL st bs a (l ++ [i]) = accL st bs a l + cnt bs a i * prc bs i := by simp [accL]
theorem accL_range (st : Int) (bs : List (Int × Int)) (a : Int) : ∀ k, accL st bs a (List.range k) = acc st bs a k
  | 0 => rfl
  | k + 1 => by rw [List.range_succ, accL_snoc, accL_range st bs a k]; rfl
theorem getD_mag {bs : List (Int × Int)} (h : OkB bs) (i : Nat) : 0 ≤ up bs i ∧ up bs i ≤ 1099511627776 ∧ 0 ≤ prc bs i ∧ prc bs i ≤ 1099511627776 := by
  rcases Nat.lt_or_ge i bs.length with hi | hi
  · have hp := h.price i hi
    rcases Nat.lt_or_ge (i + 1) bs.length with h1 | h1
    · have h2 := h.lim i h1
      have h3 := h.prev0 i hi
      omega
    · have := h.last i (by omega)
      omega
  · have e : bs.getD i (0, 0) = (0, 0) := by simp [List.getD, List.getElem?_eq_none hi]
    unfold up prc
    rw [e]
    simp
theorem prev_mag {bs : List (Int × Int)} (h : OkB bs) : ∀ i, 0 ≤ prev bs i ∧ prev bs i ≤ 1099511627776
  | 0 => ⟨by simp [prev], by simp [prev]⟩
  | i + 1 => ⟨(getD_mag h i).1, (getD_mag h i).2.1⟩
theorem cnt_mag {bs : List (Int × Int)} (h : OkB bs) {a : Int} (h0 : 0 ≤ a) (h1 : a ≤ 1099511627776) (i : Nat) : 0 ≤ cnt bs a i ∧ cnt bs a i ≤ 1099511627776 := by
  have := prev_mag h i
  have := @top_le bs a i
  unfold cnt; omega
theorem part_mag {bs : List (Int × Int)} (h : OkB bs) {a : Int} (h0 : 0 ≤ a) (h1 : a ≤ 1099511627776) (i : Nat) : 0 ≤ cnt bs a i * prc bs i ∧ cnt bs a i * prc bs i ≤ 1208925819614629174706176 := by
  have hc := cnt_mag h h0 h1 i
  have hp := (getD_mag h i).2.2
  have m0 : 0 ≤ cnt bs a i * prc bs i := Int.mul_nonneg hc.1 hp.1
  have m1 : cnt bs a i * prc bs i ≤ 1099511627776 * 1099511627776 := Int.mul_le_mul hc.2 hp.2 hp.1 (by omega)
  omega
theorem accL_mag {st : Int} {bs : List (Int × Int)} (h : OkB bs) (hs0 : 0 ≤ st) (hs1 : st ≤ 1099511627776) {a : Int} (h0 : 0 ≤ a) (h1 : a ≤ 1099511627776) (l : List Nat) : 0 ≤ accL st bs a l ∧ accL st bs a l ≤ 1099511627776 + l.length * 1208925819614629174706176 := by
  have key : ∀ (l : List Nat) (s : Int), 0 ≤ s → 0 ≤ accL s bs a l ∧ accL s bs a l ≤ s + l.length * 1208925819614629174706176 := by
    intro l
    induction l with
    | nil => intro s hs; exact ⟨hs, by simp [accL]⟩
    | cons i l ih =>
      intro s hs
      have hp := part_mag h h0 h1 i
      have := ih (s + cnt bs a i * prc bs i) (by omega)
      show 0 ≤ accL (s + cnt bs a i * prc bs i) bs a l ∧ accL (s + cnt bs a i * prc bs i) bs a l ≤ _
      simp only [List.length_cons, Int.natCast_add]
      omega
  have := key l st hs0
  omega
theorem min_hi {bs : List (Int × Int)} (h : OkB bs) {a : Int} (h1 : a ≤ 1099511627776) {i : Nat} (hp : prev bs i < a) : min a (hiI bs i) - prev bs i = cnt bs a i := by
  have hu := getD_mag h i
  have ht : min a (hiI bs i) = top bs a i := by
    unfold hiI top
    split <;> omega
  have hg : prev bs i ≤ top bs a i := by
    rcases Nat.lt_or_ge i bs.length with hi | hi
    · have := h.top_gt hi hp; omega
    · have e : up bs i = 0 := by
        have e : bs.getD i (0, 0) = (0, 0) := by simp [List.getD, List.getElem?_eq_none hi]
        unfold up; rw [e]
      unfold top; rw [if_pos e]; omega
  rw [ht, cnt_pos hg]

set_option maxHeartbeats 16000000 in
set_option maxRecDepth 100000 in
theorem bill_z (st : Int) (ao : Option Addr) (cap : Nat) (bs : List (Int × Int)) (am : Int) (w : World) (hv : tE st bs = 0) (h : RdK w ao cap bs) (h0 : 0 ≤ am) (h1 : am ≤ 1099511627776) :
    Calls Try.prog 39 #[.agg #[.int .i64 st, .slice ao bs.length cap], .int .i64 am] w (Mk ((bil st bs am : Int) : Rat) 5 w) := by
  obtain ⟨hs0, hs1, hok⟩ := tE_ok hv
  obtain ⟨n, hn⟩ : ∃ n, n = bs.length := ⟨_, rfl⟩
  rw [← hn]
  obtain ⟨W1, hW1⟩ : ∃ W, W = w.alloc (.cells #[.int .i64 st, .slice ao n cap] 24) := ⟨_, rfl⟩
  obtain ⟨W2, hW2⟩ : ∃ W, W = W1.alloc (.cells #[.int .i64 am] 2) := ⟨_, rfl⟩
  obtain ⟨W3, hW3⟩ : ∃ W, W = W2.alloc (.cells #[.bool false, .slice none 0 0, .slice none 0 0] 40) := ⟨_, rfl⟩
  have s1 : W1.heap.size = w.heap.size + 1 := by rw [hW1]; simp
  have s2 : W2.heap.size = w.heap.size + 1 + 1 := by rw [hW2]; simp [s1]
  have s3 : W3.heap.size = w.heap.size + 1 + 1 + 1 := by rw [hW3]; simp [s2]
  have b1 : Below w.heap.size w W1 := by rw [hW1]; exact below_new w _
  have b2 : Below W1.heap.size W1 W2 := by rw [hW2]; exact below_new W1 _
  have b3 : Below W2.heap.size W2 W3 := by rw [hW3]; exact below_new W2 _
  have t1 : TfBox W1 w.heap.size st ao n cap := by rw [hW1]; exact TfBox.new w _ _ _ _
  have t3 : TfBox W3 w.heap.size st ao n cap := carry (carry t1 b2) b3
  have m2 : W2.heap[w.heap.size + 1]? = some (.cells #[.int .i64 am] 2 (0, 0)) := by rw [hW2, ← s1]; exact heap_alloc_new _ _
  have m3 : W3.heap[w.heap.size + 1]? = some (.cells #[.int .i64 am] 2 (0, 0)) := carry m2 b3
  have r3 : W3.heap[w.heap.size + 1 + 1]? = some (.cells #[.bool false, .slice none 0 0, .slice none 0 0] 40 (0, 0)) := by rw [hW3, ← s2]; exact heap_alloc_new _ _
  have HB3 : Hid (Below w.heap.size w W3) := (b1.trans (b2.mono b1.size)).trans (b3.mono (by omega))
  have HR3 : Hid (RdK W3 ao cap bs) := h.below HB3.out
  have HLT : Hid (offB ao bs (fun b => b < w.heap.size)) := h.lt
  have FI : Hid (∀ w', Calls Try.prog 46 #[.int .i64 st] w' (Mk (st : Rat) 5 w')) := fun w' => fromInt_z st (by omega) (by omega) w'
  have HN := Lib.hid hn
  have HOK : Hid (OkB bs) := hok
  have HST : Hid (0 ≤ st ∧ st ≤ 1099511627776) := ⟨hs0, hs1⟩
  have T3 := Lib.hid t3
  have M3 := Lib.hid m3
  have R3 := Lib.hid r3
  have S3 := Lib.hid s3
  clear hn hok hs0 hs1 hv h b1 b2 b3 t1 m2 s1 s2 s3 t3 m3 r3
  refine (callsIn_wide (n := 9)).1 ?_
  refine callsIn_of_wp_marks Try.func39 rfl trivial ?_ rfl
  simp only [Try.ntmps39, List.size_toArray, List.length_cons, List.length_nil, Nat.reduceAdd, Nat.reduceSub, Array.replicate_succ, Array.replicate_zero, List.push_toArray, List.append_toArray, List.nil_append, List.cons_append]
  gi_wp2
  rw [← hW1, ← hW2, ← hW3]
  clear hW1 hW2 hW3
  refine ⟨trivial, (callsIn_wide.2 (FI.out _)).mono ?_⟩
  rintro e W4 ⟨v4, rfl, ⟨s4, a4, n4, c4, o4, m4, d4, rfl, q4⟩, b4⟩
  obtain ⟨W5, hW5⟩ : ∃ W, W = W4.alloc (.cells #[.bool s4, .slice a4 n4 c4, .slice o4 m4 d4] 40) := ⟨_, rfl⟩
  have b5 : Below W4.heap.size W4 W5 := by rw [hW5]; exact below_new W4 _
  have HG : Hid (W5.heap[W4.heap.size]? = some (.cells #[.bool s4, .slice a4 n4 c4, .slice o4 m4 d4] 40 (0, 0))) := by rw [hW5]; exact heap_alloc_new _ _
  have s5 : W5.heap.size = W4.heap.size + 1 := by rw [hW5]; simp
  have B5 : Below W3.heap.size W3 W5 := b4.trans (b5.mono b4.size)
  have T5 : TfBox W5 w.heap.size st ao n cap := carry T3.out B5
  obtain ⟨u0, u1⟩ := T5.cells
  have HB5 := Lib.hid B5
  have HT5 := Lib.hid T5
  have Q5 : Hid (CQ 0 W5 s4 a4 n4 c4 o4 m4 d4 (st : Rat) 5) := q4.below b5
  have S5 := Lib.hid s5
  have S34 : Hid (W3.heap.size ≤ W4.heap.size) := b4.size
  rw [hW5] at u0 u1
  clear b4 b5 B5 T5 s5 q4
  gi_wp2
  rw [← hW5]
  clear hW5 u0 u1
  refine ⟨trivial, (callsIn_wide.2 (stretches_v st ao n cap _)).mono ?_⟩
  rintro e W6 ⟨rfl, hW6⟩
  obtain ⟨g, hg⟩ : ∃ g, g = W4.heap.size := ⟨_, rfl⟩
  obtain ⟨g6, hg6⟩ : ∃ g6, g6 = W5.heap.size := ⟨_, rfl⟩
  have B6 : Below W5.heap.size W5 W6 := by rw [hW6]; exact below_new W5 _
  have TB6 : TfBox W6 g6 st ao n cap := by rw [hW6, hg6]; exact TfBox.new W5 _ _ _ _
  have hb36 : Below W3.heap.size W3 W6 := HB5.out.trans (B6.mono HB5.out.size)
  have hs6 : g < W6.heap.size := by have := B6.size; have := S5.out; omega
  have hg3 : w.heap.size + 1 + 1 < g := by have := S34.out; have := S3.out; omega
  have HG6 : Hid (W6.heap[g]? = some (.cells #[.bool s4, .slice a4 n4 c4, .slice o4 m4 d4] 40 (0, 0))) := by rw [hg]; exact carry HG.out B6
  have Q6 : Hid (CQ 0 W6 s4 a4 n4 c4 o4 m4 d4 (st : Rat) 5) := Q5.out.below B6
  have M6 : Hid (W6.heap[w.heap.size + 1]? = some (.cells #[.int .i64 am] 2 (0, 0))) := carry M3.out hb36
  have R6 : Hid (W6.heap[w.heap.size + 1 + 1]? = some (.cells #[.bool false, .slice none 0 0, .slice none 0 0] 40 (0, 0))) := carry R3.out hb36
  have K6 : Hid (RdK W6 ao cap bs) := HR3.out.below hb36
  have L6 : Hid (offB ao bs (fun b => b < g)) := fun h0 b o e => by have := HLT.out h0 b o e; show b < g; omega
  have BW6 : Hid (Below w.heap.size w W6) := HB3.out.trans (hb36.mono (by have := S3.out; omega))
  have HS6 := Lib.hid hs6
  have HG3 := Lib.hid hg3
  have TB := Lib.hid TB6
  have HW6 := Lib.hid hW6
  have HGG := Lib.hid hg
  have HGS := Lib.hid hg6
  clear hW6 hg hg6 B6 TB6 hb36 hs6 hg3 HG Q5 M3 R3 HR3 HLT HB3 HB5 HT5 S5 S34 S3 T3
  gi_wp2
  try rw [← HW6.out]
  try rw [← HGG.out]
  try rw [← HGS.out]
  clear HW6 HGG HGS
  obtain ⟨ma, hma⟩ : ∃ ma, ma = w.heap.size + 1 := ⟨_, rfl⟩
  obtain ⟨rg, hrg⟩ : ∃ rg, rg = w.heap.size + 1 + 1 := ⟨_, rfl⟩
  rw [← hrg] at R6 HG3
  rw [← hma] at M6
  rw [← hrg, ← hma]
  have HMR : Hid (ma < rg ∧ w.heap.size < rg ∧ ma = w.heap.size + 1) := ⟨by omega, by omega, hma⟩
  clear hma hrg
  refine wpIn_rangeFunc_ownH rfl (by omega) (gf := 75) (lb := #[.pointer (some ⟨g6, 0, none⟩)]) rfl trivial (enters_of Try.func75 (by kernel_rfl) rfl)
    (stretches_stops 8 g6 g st ao cap bs HOK.out W6 (Nat.le_of_lt HS6.out) (by rw [← HN.out]; exact TB.out) K6.out L6.out) belowK_t (belowK_b (Nat.le_of_lt HS6.out)) (Below.refl _ _) (fun _ => rfl)
    (fun pre W => BoxN W g ((accL st bs am pre : Int) : Rat) 5 ∧ Below g W6 W)
    (fun c pre W => c = .exit 0 ∧ (∃ p x, pre = p ++ [x] ∧ am ≤ prev bs x ∧ BoxN W g ((accL st bs am p : Int) : Rat) 5) ∧ Below g W6 W)
    (OwnFrom.and (Own.from (BoxN.own g 5 (fun pre => ((accL st bs am pre : Int) : Rat))) _) (ownFrom_below (Nat.le_of_lt HS6.out) (Nat.le_of_lt HS6.out)))
    (fun c s X Y row hs hg hr => ⟨hs.1, (by obtain ⟨p, x, e, h, hb⟩ := hs.2.1; exact ⟨p, x, e, h, hb.grown hg (fun r e => (hr r e).2)⟩), ownFrom_below (β := Unit) (Nat.le_of_lt HS6.out) (Nat.le_of_lt HS6.out) () X Y row hs.2.2 hg hr⟩)
    ⟨⟨_, _, _, _, _, _, _, HG6.out, Q6.out⟩, Below.refl _ _⟩
    (fun x a' W => ∃ B, g < B ∧ StBox W B bs x ∧ a' = { tmps := #[.agg #[.int .i64 st, .slice ao n cap], .int .i64 am, .pointer (some ⟨w.heap.size, 0, none⟩), .pointer (some ⟨ma, 0, none⟩), .pointer (some ⟨rg, 0, none⟩), .pointer (some ⟨g, 0, none⟩), .pointer (some ⟨B, 0, none⟩), .pointer (some ⟨w.heap.size, 0, none⟩), .int .i64 st, .agg #[.bool s4, .slice a4 n4 c4, .slice o4 m4 d4], .agg #[.int .i64 st, .slice ao n cap], .func (.func 75) #[] #[.pointer (some ⟨g6, 0, none⟩)], stv bs x, undef, undef, undef, undef, undef, undef, undef, undef, undef, undef, undef, undef, undef, undef, undef, undef, undef, undef], defers := [] })
    (fun x a' _ X Y row hs hg hr => (by obtain ⟨B, h1, h2, h3⟩ := hs; exact ⟨B, h1, cells_grown h2 hg (fun r e => (hr r e).2), h3⟩)) ?assign ?body ?done ?stop
  case assign =>
    intro l pre x W K hi hK
    dsimp only [stv]
    gi_wp2
    have hgW : g ≤ W.heap.size := Nat.le_trans (Nat.le_of_lt HS6.out) hi.2.size
    exact hK _ _ (keeps_below (below_new W _)) ((below_new W _).mono hgW) ⟨hi.1.below (below_new W _), hi.2.trans ((below_new W _).mono hgW)⟩ ⟨W.heap.size, Nat.lt_of_lt_of_le HS6.out hi.2.size, World.alloc_heap_new W _, rfl⟩
  case body =>
    rintro l pre x a' W hl ⟨r, hr⟩ ⟨⟨s, a, nn, c, o, m, d, hbx, hq⟩, hbl⟩ ⟨B, hgB, hst, rfl⟩ hlt
    obtain ⟨A, hA⟩ : ∃ A, A = accL st bs am pre := ⟨_, rfl⟩
    obtain ⟨q, hqe⟩ : ∃ q, q = prev bs x := ⟨_, rfl⟩
    obtain ⟨hi, hhi⟩ : ∃ q, q = hiI bs x := ⟨_, rfl⟩
    obtain ⟨p, hp⟩ : ∃ q, q = prc bs x := ⟨_, rfl⟩
    obtain ⟨cn, hcn⟩ : ∃ q, q = cnt bs am x := ⟨_, rfl⟩
    have M7 : W.heap[ma]? = some (.cells #[.int .i64 am] 2 (0, 0)) := (hbl.block ma (by have := HMR.out; have := HG3.out; omega)).trans M6.out
    have m0 : W.cell? ⟨ma, 0, none⟩ = some (.int .i64 am) := by simp [World.cell?, M7]
    obtain ⟨k0, k1, k2⟩ := hst.cells
    have hgW : g < W.heap.size := Nat.lt_of_lt_of_le HS6.out hbl.size
    have XG : Hid (W.heap[g]? = some (.cells #[.bool s, .slice a nn c, .slice o m d] 40 (0, 0))) := hbx
    have HST2 := Lib.hid hst
    rw [← hqe] at k0
    rw [← hhi] at k1
    rw [← hp] at k2
    have HQ : Hid (CQ 0 W s a nn c o m d (A : Rat) 5) := by rw [hA]; exact hq
    have HBL := Lib.hid hbl
    have HE : Hid (q = prev bs x ∧ hi = hiI bs x ∧ p = prc bs x ∧ cn = cnt bs am x ∧ A = accL st bs am pre) := ⟨hqe, hhi, hp, hcn, hA⟩
    have HMG : Hid (ma < g) := by have := HMR.out; have := HG3.out; unfold Hid; omega
    have HGW := Lib.hid hgW
    have HGB := Lib.hid hgB
    have hpm : 0 ≤ p ∧ p ≤ 1099511627776 := by rw [hp]; exact (getD_mag HOK.out x).2.2
    have hqm : 0 ≤ q ∧ q ≤ 1099511627776 := by rw [hqe]; exact prev_mag HOK.out x
    have hcm : 0 ≤ cn ∧ cn ≤ 1099511627776 := by rw [hcn]; exact cnt_mag HOK.out h0 h1 x
    have hAm : 0 ≤ A ∧ A ≤ 1099511627776 + 8 * 1208925819614629174706176 := by
      have := accL_mag HOK.out HST.out.1 HST.out.2 h0 h1 pre
      have h8 := HOK.out.len
      rw [hA]; omega
    have hcpm : 0 ≤ cn * p ∧ cn * p ≤ 1208925819614629174706176 := by rw [hcn, hp]; exact part_mag HOK.out h0 h1 x
    have HCP : Hid ((cn * p).natAbs < pw 5 ∧ (A + cn * p).natAbs < pw 5) := ⟨by rw [pw5]; omega, by rw [pw5]; omega⟩
    have HPM := Lib.hid hpm
    have HQM := Lib.hid hqm
    have HCM := Lib.hid hcm
    have HAM : Hid (0 ≤ am ∧ am ≤ 1099511627776) := ⟨h0, h1⟩
    clear hA hqe hhi hp hcn M7 hst hbx hq hbl hpm hqm hcm hAm hcpm hgW hgB hr hl hlt h0 h1
    by_cases hbr : am ≤ q
    · have d0 : decide (am ≤ q) = true := decide_eq_true hbr
      have HBR := Lib.hid hbr
      clear hbr
      gi_wp2
      exact ⟨KeepsFrom.refl _ _, rfl, ⟨pre, x, rfl, by rw [← HE.out.1]; exact HBR.out, ⟨_, _, _, _, _, _, _, XG.out, by rw [← HE.out.2.2.2.2]; exact HQ.out⟩⟩, HBL.out⟩
    · have d0 : decide (am ≤ q) = false := decide_eq_false hbr
      have HMN : Hid (min am hi - q = cn) := by
        obtain ⟨e1, e2, e3, e4, _⟩ := HE.out
        unfold Hid
        rw [e1, e2, e4]
        exact min_hi HOK.out HAM.out.2 (by rw [← e1]; omega)
      have HMI : Hid (min am hi ≤ am) := by unfold Hid; omega
      obtain ⟨mh, hmh⟩ : ∃ mh, mh = min am hi := ⟨_, rfl⟩
      have HMH : Hid (min am hi = mh ∧ mh - q = cn ∧ q ≤ mh ∧ mh ≤ 1099511627776) := ⟨hmh.symm, by rw [hmh]; exact HMN.out, by have := HMN.out; have := HCM.out; omega, by have := HMI.out; have := HAM.out; omega⟩
      clear hbr hmh HMN HMI
      gi_wp2
      refine wp_region_round (by kernel_rfl) (by kernel_rfl) (by rintro ⟨_, _, h⟩; exact h) ?_
      refine region_ssa [17, 18, 19, 20, 21, 22, 23, 24, 25, 26, 27, 28, 29] (ExtT 40 g W) (ExtT 40 g) (LsP [kQ (((A : Int) : Rat)) (5), kV (.int .i64 am), kV (.pointer (some ⟨B, 1, none⟩)), kV (.int .i64 hi), kV (.int .i64 mh), kV (.pointer (some ⟨B, 0, none⟩)), kV (.int .i64 q), kV (.int .i64 cn), kV (.pointer (some ⟨B, 2, none⟩)), kV (.int .i64 p), kQ (((p : Int) : Rat)) (5), kQ (((cn * p : Int) : Rat)) (5), kQ (((A + cn * p : Int) : Rat)) (5), kAny]) (fun D f w1 => (D 13 = false → w1.heap[g]? = some (.cells #[.bool s, .slice a nn c, .slice o m d] 40 (0, 0))) ∧ (D 13 = true → HoldsT 40 w1 (.pointer (some ⟨g, 0, none⟩)) (f 29))) (fun f => rfl) (by kernel_rfl) (by kernel_rfl) ?_ ?_ ?_ ?_ (AllFrom.below (n := 14) ?_) ?_
      · exact ExtT.drewT (ExtT.refl 40 g _)
      · intro f; exact ⟨fun _ => XG.out, fun h => (by cases h)⟩
      · intro jx vx w1 w2 _ h hE; exact LsP.ext (StTL.all (l := [kQ (((A : Int) : Rat)) (5), kV (.int .i64 am), kV (.pointer (some ⟨B, 1, none⟩)), kV (.int .i64 hi), kV (.int .i64 mh), kV (.pointer (some ⟨B, 0, none⟩)), kV (.int .i64 q), kV (.int .i64 cn), kV (.pointer (some ⟨B, 2, none⟩)), kV (.int .i64 p), kQ (((p : Int) : Rat)) (5), kQ (((cn * p : Int) : Rat)) (5), kQ (((A + cn * p : Int) : Rat)) (5), kAny]) ⟨StT.q (by decide) _ _, StT.v _ _, StT.v _ _, StT.v _ _, StT.v _ _, StT.v _ _, StT.v _ _, StT.v _ _, StT.v _ _, StT.v _ _, StT.q (by decide) _ _, StT.q (by decide) _ _, StT.q (by decide) _ _, StT.any _, trivial⟩) jx vx w1 w2 h hE
      · intro w1 w2 hB hE; exact ExtT.trans hB hE
      · refine AllFrom.step (m := 13) (j := 1) rfl ?_ ?_
        · intro D f w1 hD hB hR hp hcl hX
          have hbx := hX.1 (eq_false_of_ne_true (no_of (D := D) (hcl 13) (by kernel_rfl) hD))
          have HBX := Lib.hid hbx
          have HEB := Lib.hid hB
          have hgs : g < w1.heap.size := (Array.getElem?_eq_some_iff.1 hbx).1
          obtain ⟨o0, o1, o2, z0, z1, z2⟩ := at_block HBX.out
          have m1 := (HEB.out.1.cell (p := ⟨ma, 0, none⟩) HMG.out).trans m0
          have hst1 : StBox w1 B bs x := ExtT.other (by decide) HEB.out HST2.out
          obtain ⟨j0, j1, j2⟩ := hst1.cells
          obtain ⟨e1, e2, e3, -, -⟩ := HE.out
          rw [← e1] at j0
          rw [← e2] at j1
          rw [← e3] at j2
          clear e1 e2 e3 hst1
          have hnov := Lib.hid (no_of (D := D) (hcl 13) (by kernel_rfl) hD)
          clear hX hR hp hbx hB hcl
          refine wpOp_step rfl (fun K hK => ?_)
          simp only [putAll, Act.put, List.setIfInBounds_toArray, List.set_cons_succ, List.set_cons_zero]
          go_simp
          exact hK _ _ ⟨_, (by show _ = Act.put _ (some 17) _; simp only [putAll, Act.put, List.setIfInBounds_toArray, List.set_cons_succ, List.set_cons_zero, *]), ⟨_, _, _, _, _, _, _, rfl, CQ.extT (by decide) HQ.out HEB.out⟩, ExtT.refl _ _ _, ⟨fun _ => HBX.out, fun h => absurd h hnov.out⟩⟩
        refine AllFrom.step (m := 12) (j := 2) rfl ?_ ?_
        · intro D f w1 hD hB hR hp hcl hX
          have hbx := hX.1 (eq_false_of_ne_true (no_of (D := D) (hcl 13) (by kernel_rfl) hD))
          have HBX := Lib.hid hbx
          have HEB := Lib.hid hB
          have hgs : g < w1.heap.size := (Array.getElem?_eq_some_iff.1 hbx).1
          obtain ⟨o0, o1, o2, z0, z1, z2⟩ := at_block HBX.out
          have m1 := (HEB.out.1.cell (p := ⟨ma, 0, none⟩) HMG.out).trans m0
          have hst1 : StBox w1 B bs x := ExtT.other (by decide) HEB.out HST2.out
          obtain ⟨j0, j1, j2⟩ := hst1.cells
          obtain ⟨e1, e2, e3, -, -⟩ := HE.out
          rw [← e1] at j0
          rw [← e2] at j1
          rw [← e3] at j2
          clear e1 e2 e3 hst1
          have hnov := Lib.hid (no_of (D := D) (hcl 13) (by kernel_rfl) hD)
          clear hX hR hp hbx hB hcl
          refine wpOp_step rfl (fun K hK => ?_)
          simp only [putAll, Act.put, List.setIfInBounds_toArray, List.set_cons_succ, List.set_cons_zero]
          go_simp
          exact hK _ _ ⟨.int .i64 am, (by show _ = Act.put _ (some 18) _; simp only [putAll, Act.put, List.setIfInBounds_toArray, List.set_cons_succ, List.set_cons_zero, *]), rfl, ExtT.refl _ _ _, ⟨fun _ => HBX.out, fun h => absurd h hnov.out⟩⟩
        refine AllFrom.step (m := 11) (j := 3) rfl ?_ ?_
        · intro D f w1 hD hB hR hp hcl hX
          have hbx := hX.1 (eq_false_of_ne_true (no_of (D := D) (hcl 13) (by kernel_rfl) hD))
          have HBX := Lib.hid hbx
          have HEB := Lib.hid hB
          have hgs : g < w1.heap.size := (Array.getElem?_eq_some_iff.1 hbx).1
          have hnov := Lib.hid (no_of (D := D) (hcl 13) (by kernel_rfl) hD)
          clear hX hR hp hbx hB hcl
          refine wpOp_step rfl (fun K hK => ?_)
          simp only [putAll, Act.put, List.setIfInBounds_toArray, List.set_cons_succ, List.set_cons_zero]
          go_simp
          exact hK _ _ ⟨.pointer (some ⟨B, 1, none⟩), (by show _ = Act.put _ (some 19) _; simp only [putAll, Act.put, List.setIfInBounds_toArray, List.set_cons_succ, List.set_cons_zero, *]), rfl, ExtT.refl _ _ _, ⟨fun _ => HBX.out, fun h => absurd h hnov.out⟩⟩
        refine AllFrom.step (m := 10) (j := 4) rfl ?_ ?_
        · intro D f w1 hD hB hR hp hcl hX
          have hbx := hX.1 (eq_false_of_ne_true (no_of (D := D) (hcl 13) (by kernel_rfl) hD))
          have HBX := Lib.hid hbx
          have HEB := Lib.hid hB
          have hgs : g < w1.heap.size := (Array.getElem?_eq_some_iff.1 hbx).1
          have e2 : f 19 = .pointer (some ⟨B, 1, none⟩) := (hp_at hp 2 (by kernel_rfl)).2
          obtain ⟨o0, o1, o2, z0, z1, z2⟩ := at_block HBX.out
          have m1 := (HEB.out.1.cell (p := ⟨ma, 0, none⟩) HMG.out).trans m0
          have hst1 : StBox w1 B bs x := ExtT.other (by decide) HEB.out HST2.out
          obtain ⟨j0, j1, j2⟩ := hst1.cells
          obtain ⟨e1, e2, e3, -, -⟩ := HE.out
          rw [← e1] at j0
          rw [← e2] at j1
          rw [← e3] at j2
          clear e1 e2 e3 hst1
          have hnov := Lib.hid (no_of (D := D) (hcl 13) (by kernel_rfl) hD)
          clear hX hR hp hbx hB hcl
          refine wpOp_step rfl (fun K hK => ?_)
          simp only [putAll, Act.put, List.setIfInBounds_toArray, List.set_cons_succ, List.set_cons_zero]
          go_simp
          exact hK _ _ ⟨.int .i64 hi, (by show _ = Act.put _ (some 20) _; simp only [putAll, Act.put, List.setIfInBounds_toArray, List.set_cons_succ, List.set_cons_zero, *]), rfl, ExtT.refl _ _ _, ⟨fun _ => HBX.out, fun h => absurd h hnov.out⟩⟩
        refine AllFrom.step (m := 9) (j := 5) rfl ?_ ?_
        · intro D f w1 hD hB hR hp hcl hX
          have hbx := hX.1 (eq_false_of_ne_true (no_of (D := D) (hcl 13) (by kernel_rfl) hD))
          have HBX := Lib.hid hbx
          have HEB := Lib.hid hB
          have hgs : g < w1.heap.size := (Array.getElem?_eq_some_iff.1 hbx).1
          have e1 : f 18 = .int .i64 am := (hp_at hp 1 (by kernel_rfl)).2
          have e3 : f 20 = .int .i64 hi := (hp_at hp 3 (by kernel_rfl)).2
          have hmn := HMH.out.1
          have hnov := Lib.hid (no_of (D := D) (hcl 13) (by kernel_rfl) hD)
          clear hX hR hp hbx hB hcl
          refine wpOp_step rfl (fun K hK => ?_)
          simp only [putAll, Act.put, List.setIfInBounds_toArray, List.set_cons_succ, List.set_cons_zero]
          go_simp
          exact hK _ _ ⟨.int .i64 mh, (by show _ = Act.put _ (some 21) _; simp only [putAll, Act.put, List.setIfInBounds_toArray, List.set_cons_succ, List.set_cons_zero, *]), rfl, ExtT.refl _ _ _, ⟨fun _ => HBX.out, fun h => absurd h hnov.out⟩⟩
        refine AllFrom.step (m := 8) (j := 6) rfl ?_ ?_
        · intro D f w1 hD hB hR hp hcl hX
          have hbx := hX.1 (eq_false_of_ne_true (no_of (D := D) (hcl 13) (by kernel_rfl) hD))
          have HBX := Lib.hid hbx
          have HEB := Lib.hid hB
          have hgs : g < w1.heap.size := (Array.getElem?_eq_some_iff.1 hbx).1
          have hnov := Lib.hid (no_of (D := D) (hcl 13) (by kernel_rfl) hD)
          clear hX hR hp hbx hB hcl
          refine wpOp_step rfl (fun K hK => ?_)
          simp only [putAll, Act.put, List.setIfInBounds_toArray, List.set_cons_succ, List.set_cons_zero]
          go_simp
          exact hK _ _ ⟨.pointer (some ⟨B, 0, none⟩), (by show _ = Act.put _ (some 22) _; simp only [putAll, Act.put, List.setIfInBounds_toArray, List.set_cons_succ, List.set_cons_zero, *]), rfl, ExtT.refl _ _ _, ⟨fun _ => HBX.out, fun h => absurd h hnov.out⟩⟩
        refine AllFrom.step (m := 7) (j := 7) rfl ?_ ?_
        · intro D f w1 hD hB hR hp hcl hX
          have hbx := hX.1 (eq_false_of_ne_true (no_of (D := D) (hcl 13) (by kernel_rfl) hD))
          have HBX := Lib.hid hbx
          have HEB := Lib.hid hB
          have hgs : g < w1.heap.size := (Array.getElem?_eq_some_iff.1 hbx).1
          have e5 : f 22 = .pointer (some ⟨B, 0, none⟩) := (hp_at hp 5 (by kernel_rfl)).2
          obtain ⟨o0, o1, o2, z0, z1, z2⟩ := at_block HBX.out
          have m1 := (HEB.out.1.cell (p := ⟨ma, 0, none⟩) HMG.out).trans m0
          have hst1 : StBox w1 B bs x := ExtT.other (by decide) HEB.out HST2.out
          obtain ⟨j0, j1, j2⟩ := hst1.cells
          obtain ⟨e1, e2, e3, -, -⟩ := HE.out
          rw [← e1] at j0
          rw [← e2] at j1
          rw [← e3] at j2
          clear e1 e2 e3 hst1
          have hnov := Lib.hid (no_of (D := D) (hcl 13) (by kernel_rfl) hD)
          clear hX hR hp hbx hB hcl
          refine wpOp_step rfl (fun K hK => ?_)
          simp only [putAll, Act.put, List.setIfInBounds_toArray, List.set_cons_succ, List.set_cons_zero]
          go_simp
          exact hK _ _ ⟨.int .i64 q, (by show _ = Act.put _ (some 23) _; simp only [putAll, Act.put, List.setIfInBounds_toArray, List.set_cons_succ, List.set_cons_zero, *]), rfl, ExtT.refl _ _ _, ⟨fun _ => HBX.out, fun h => absurd h hnov.out⟩⟩
        refine AllFrom.step (m := 6) (j := 8) rfl ?_ ?_
        · intro D f w1 hD hB hR hp hcl hX
          have hbx := hX.1 (eq_false_of_ne_true (no_of (D := D) (hcl 13) (by kernel_rfl) hD))
          have HBX := Lib.hid hbx
          have HEB := Lib.hid hB
          have hgs : g < w1.heap.size := (Array.getElem?_eq_some_iff.1 hbx).1
          have e4 : f 21 = .int .i64 mh := (hp_at hp 4 (by kernel_rfl)).2
          have e6 : f 23 = .int .i64 q := (hp_at hp 6 (by kernel_rfl)).2
          have hmn2 := HMH.out.2.1
          have hmn3 := HMH.out.2.2.1
          have hmn4 := HMH.out.2.2.2
          have hqm := HQM.out
          have hcm := HCM.out
          have hwr := wrap_mid hcm.1 (by omega)
          have hnov := Lib.hid (no_of (D := D) (hcl 13) (by kernel_rfl) hD)
          clear hX hR hp hbx hB hcl
          refine wpOp_step rfl (fun K hK => ?_)
          simp only [putAll, Act.put, List.setIfInBounds_toArray, List.set_cons_succ, List.set_cons_zero]
          go_simp
          exact hK _ _ ⟨.int .i64 cn, (by show _ = Act.put _ (some 24) _; simp only [putAll, Act.put, List.setIfInBounds_toArray, List.set_cons_succ, List.set_cons_zero, *]), rfl, ExtT.refl _ _ _, ⟨fun _ => HBX.out, fun h => absurd h hnov.out⟩⟩
        refine AllFrom.step (m := 5) (j := 9) rfl ?_ ?_
        · intro D f w1 hD hB hR hp hcl hX
          have hbx := hX.1 (eq_false_of_ne_true (no_of (D := D) (hcl 13) (by kernel_rfl) hD))
          have HBX := Lib.hid hbx
          have HEB := Lib.hid hB
          have hgs : g < w1.heap.size := (Array.getElem?_eq_some_iff.1 hbx).1
          have hnov := Lib.hid (no_of (D := D) (hcl 13) (by kernel_rfl) hD)
          clear hX hR hp hbx hB hcl
          refine wpOp_step rfl (fun K hK => ?_)
          simp only [putAll, Act.put, List.setIfInBounds_toArray, List.set_cons_succ, List.set_cons_zero]
          go_simp
          exact hK _ _ ⟨.pointer (some ⟨B, 2, none⟩), (by show _ = Act.put _ (some 25) _; simp only [putAll, Act.put, List.setIfInBounds_toArray, List.set_cons_succ, List.set_cons_zero, *]), rfl, ExtT.refl _ _ _, ⟨fun _ => HBX.out, fun h => absurd h hnov.out⟩⟩
        refine AllFrom.step (m := 4) (j := 10) rfl ?_ ?_
        · intro D f w1 hD hB hR hp hcl hX
          have hbx := hX.1 (eq_false_of_ne_true (no_of (D := D) (hcl 13) (by kernel_rfl) hD))
          have HBX := Lib.hid hbx
          have HEB := Lib.hid hB
          have hgs : g < w1.heap.size := (Array.getElem?_eq_some_iff.1 hbx).1
          have e8 : f 25 = .pointer (some ⟨B, 2, none⟩) := (hp_at hp 8 (by kernel_rfl)).2
          obtain ⟨o0, o1, o2, z0, z1, z2⟩ := at_block HBX.out
          have m1 := (HEB.out.1.cell (p := ⟨ma, 0, none⟩) HMG.out).trans m0
          have hst1 : StBox w1 B bs x := ExtT.other (by decide) HEB.out HST2.out
          obtain ⟨j0, j1, j2⟩ := hst1.cells
          obtain ⟨e1, e2, e3, -, -⟩ := HE.out
          rw [← e1] at j0
          rw [← e2] at j1
          rw [← e3] at j2
          clear e1 e2 e3 hst1
          have hnov := Lib.hid (no_of (D := D) (hcl 13) (by kernel_rfl) hD)
          clear hX hR hp hbx hB hcl
          refine wpOp_step rfl (fun K hK => ?_)
          simp only [putAll, Act.put, List.setIfInBounds_toArray, List.set_cons_succ, List.set_cons_zero]
          go_simp
          exact hK _ _ ⟨.int .i64 p, (by show _ = Act.put _ (some 26) _; simp only [putAll, Act.put, List.setIfInBounds_toArray, List.set_cons_succ, List.set_cons_zero, *]), rfl, ExtT.refl _ _ _, ⟨fun _ => HBX.out, fun h => absurd h hnov.out⟩⟩
        refine AllFrom.step (m := 3) (j := 11) rfl ?_ ?_
        · intro D f w1 hD hB hR hp hcl hX
          have hbx := hX.1 (eq_false_of_ne_true (no_of (D := D) (hcl 13) (by kernel_rfl) hD))
          have HBX := Lib.hid hbx
          have HEB := Lib.hid hB
          have hgs : g < w1.heap.size := (Array.getElem?_eq_some_iff.1 hbx).1
          have e9 : f 26 = .int .i64 p := (hp_at hp 9 (by kernel_rfl)).2
          have hnov := Lib.hid (no_of (D := D) (hcl 13) (by kernel_rfl) hD)
          clear hX hR hp hbx hB hcl
          refine wpOp_step rfl (fun K hK => ?_)
          simp only [putAll, Act.put, List.setIfInBounds_toArray, List.set_cons_succ, List.set_cons_zero]
          go_simp
          refine (fromInt_z p (by have := HPM.out; omega) (by have := HPM.out; omega) _).mono ?_
          rintro e w2 h9
          obtain ⟨v9, rfl, hq9, hb⟩ := h9
          replace hq9 := Lib.hid hq9
          go_simp
          exact hK _ _ ⟨v9, (by show _ = Act.put _ (some 27) _; simp only [putAll, Act.put, List.setIfInBounds_toArray, List.set_cons_succ, List.set_cons_zero, *]), hq9.out, ExtT.of_below hb (Nat.le_of_lt hgs), ⟨fun _ => carry HBX.out hb, fun h => absurd h hnov.out⟩⟩
        refine AllFrom.step (m := 2) (j := 12) rfl ?_ ?_
        · intro D f w1 hD hB hR hp hcl hX
          have hbx := hX.1 (eq_false_of_ne_true (no_of (D := D) (hcl 13) (by kernel_rfl) hD))
          have HBX := Lib.hid hbx
          have HEB := Lib.hid hB
          have hgs : g < w1.heap.size := (Array.getElem?_eq_some_iff.1 hbx).1
          have e7 : f 24 = .int .i64 cn := (hp_at hp 7 (by kernel_rfl)).2
          have q10 : IsQ _ _ (f 27) w1 := (hp_at hp 10 (by kernel_rfl)).2
          obtain ⟨v10, e10⟩ : ∃ v, f 27 = v := ⟨_, rfl⟩
          rw [e10] at q10
          replace q10 := Lib.hid q10
          have hnov := Lib.hid (no_of (D := D) (hcl 13) (by kernel_rfl) hD)
          clear hX hR hp hbx hB hcl
          refine wpOp_step rfl (fun K hK => ?_)
          simp only [putAll, Act.put, List.setIfInBounds_toArray, List.set_cons_succ, List.set_cons_zero]
          go_simp
          refine (times_z cn p (by have := HCM.out; omega) (by have := HCM.out; omega) _ _ q10.out HCP.out.1).mono ?_
          rintro e w2 h9
          obtain ⟨v9, rfl, hq9, hb⟩ := h9
          replace hq9 := Lib.hid hq9
          go_simp
          exact hK _ _ ⟨v9, (by show _ = Act.put _ (some 28) _; simp only [putAll, Act.put, List.setIfInBounds_toArray, List.set_cons_succ, List.set_cons_zero, *]), hq9.out, ExtT.of_below hb (Nat.le_of_lt hgs), ⟨fun _ => carry HBX.out hb, fun h => absurd h hnov.out⟩⟩
        refine AllFrom.step (m := 1) (j := 13) rfl ?_ ?_
        · intro D f w1 hD hB hR hp hcl hX
          have hbx := hX.1 (eq_false_of_ne_true (no_of (D := D) (hcl 13) (by kernel_rfl) hD))
          have HBX := Lib.hid hbx
          have HEB := Lib.hid hB
          have hgs : g < w1.heap.size := (Array.getElem?_eq_some_iff.1 hbx).1
          have q0 : IsQ _ _ (f 17) w1 := (hp_at hp 0 (by kernel_rfl)).2
          obtain ⟨v0, e0⟩ : ∃ v, f 17 = v := ⟨_, rfl⟩
          rw [e0] at q0
          replace q0 := Lib.hid q0
          have q11 : IsQ _ _ (f 28) w1 := (hp_at hp 11 (by kernel_rfl)).2
          obtain ⟨v11, e11⟩ : ∃ v, f 28 = v := ⟨_, rfl⟩
          rw [e11] at q11
          replace q11 := Lib.hid q11
          have hnov := Lib.hid (no_of (D := D) (hcl 13) (by kernel_rfl) hD)
          clear hX hR hp hbx hB hcl
          refine wpOp_step rfl (fun K hK => ?_)
          simp only [putAll, Act.put, List.setIfInBounds_toArray, List.set_cons_succ, List.set_cons_zero]
          go_simp
          refine (add_z q0.out q11.out HCP.out.2).mono ?_
          rintro e w2 h9
          obtain ⟨v9, rfl, hq9, hb⟩ := h9
          replace hq9 := Lib.hid hq9
          go_simp
          exact hK _ _ ⟨v9, (by show _ = Act.put _ (some 29) _; simp only [putAll, Act.put, List.setIfInBounds_toArray, List.set_cons_succ, List.set_cons_zero, *]), hq9.out, ExtT.of_below hb (Nat.le_of_lt hgs), ⟨fun _ => carry HBX.out hb, fun h => absurd h hnov.out⟩⟩
        refine AllFrom.step (m := 0) (j := 14) rfl ?_ ?_
        · intro D f w1 hD hB hR hp hcl hX
          have hbx := hX.1 hD
          obtain ⟨s5, a5, n5, c5, o5, m5, d5, ev, hcq⟩ := (hp_at hp 12 (by kernel_rfl)).2
          replace ev : f 29 = _ := ev
          obtain ⟨o0, o1, o2, z0, z1, z2⟩ := at_block hbx
          have HBX : Hid (BoxT 40 w1 g) := ⟨_, _, _, hbx⟩
          clear hX hR hp hbx hcl
          refine wpOp_step rfl (fun K hK => ?_)
          simp only [putAll, Act.put, List.setIfInBounds_toArray, List.set_cons_succ, List.set_cons_zero]
          go_simp
          exact hK _ _ ⟨undef, (by show _ = Act.put _ (none) _; simp only [putAll, Act.put, List.setIfInBounds_toArray, List.set_cons_succ, List.set_cons_zero, *]), trivial, ExtT.set3 HBX.out (Nat.le_refl _) _ _ _, ⟨fun h => absurd (show true = false from h) (by decide), fun _ => by show HoldsT _ _ _ (f 29); rw [ev]; exact HoldsT.new HBX.out _ _ _⟩⟩
        exact AllFrom.nil
      · intro D f w1 hall hB hR hX
        have hbox : BoxN w1 g (((A + cn * p : Int) : Rat)) (5) := BoxN.of (hX.2 (hall 13 (by decide))) (show IsQ _ _ (f 29) w1 from hR 12 (by decide))
        simp only [putAll, Act.put, List.setIfInBounds_toArray, List.set_cons_succ, List.set_cons_zero]
        exact ⟨ExtT.keeps hB, hB.1, by rw [accL_snoc, ← HE.out.2.2.2.2, ← HE.out.2.2.2.1, ← HE.out.2.2.1]; exact hbox, HBL.out.trans hB.1⟩
  case done =>
    rintro D xs W hD rfl ⟨⟨s, a, nn, c, o, m, d, hbx, hq⟩, hbl⟩ hK
    obtain ⟨o0, o1, o2, z0, z1, z2⟩ := at_block hbx
    have R7 : W.heap[rg]? = some (.cells #[.bool false, .slice none 0 0, .slice none 0 0] 40 (0, 0)) := (hbl.block rg (by have := HG3.out; omega)).trans R6.out
    obtain ⟨p0, p1, p2, y0, y1, y2⟩ := at_block R7
    have hs : rg < W6.heap.size := by have := HS6.out; have := HG3.out; omega
    obtain ⟨k8, h8, q8, b8⟩ := fin_mark R7 hq hK (BW6.out.trans (hbl.mono (by have := HG3.out; have := HMR.out; omega))) (Nat.le_refl _) (by have := HMR.out; omega) (by have := BW6.out.size; omega)
    have hval : accL st bs am (List.range bs.length) = bil st bs am := by
      rw [accL_range]; rfl
    rw [hval] at q8
    have K8 := Lib.hid k8
    have H8 := Lib.hid h8
    have Q8 := Lib.hid q8
    have B8 := Lib.hid b8
    clear k8 h8 q8 b8 hq hbl hbx R7 hK hval
    gi_wp2
    refine ⟨by simp, .inl ⟨_, _, rfl, run_takeDeferred K8.out, ?_⟩⟩
    obtain ⟨v0, v1, v2, -, -, -⟩ := at_block H8.out
    exact ⟨.agg #[.bool s, .slice a nn c, .slice o m d], by simp [results, Try.results39, go_sem, v0, v1, v2], _, rfl, Q8.out, B8.out⟩
  case stop =>
    rintro D c pre W hD ⟨k, hk, rfl⟩ ⟨rfl, ⟨p, x, e, hp, ⟨s, a, nn, c, o, m, d, hbx, hq⟩⟩, hbl⟩ hK
    obtain ⟨o0, o1, o2, z0, z1, z2⟩ := at_block hbx
    have R7 : W.heap[rg]? = some (.cells #[.bool false, .slice none 0 0, .slice none 0 0] 40 (0, 0)) := (hbl.block rg (by have := HG3.out; omega)).trans R6.out
    obtain ⟨p0, p1, p2, y0, y1, y2⟩ := at_block R7
    have hs : rg < W6.heap.size := by have := HS6.out; have := HG3.out; omega
    obtain ⟨k8, h8, q8, b8⟩ := fin_mark R7 hq hK (BW6.out.trans (hbl.mono (by have := HG3.out; have := HMR.out; omega))) (Nat.le_refl _) (by have := HMR.out; omega) (by have := BW6.out.size; omega)
    have hval : accL st bs am p = bil st bs am := by
      rw [List.range_succ] at e
      obtain ⟨rfl, e2⟩ := List.append_inj_left' e rfl |> fun h1 => (⟨h1, List.append_inj_right' e rfl⟩ : _ ∧ _)
      cases e2
      rw [accL_range]
      exact (HOK.out.acc_stop hp _ (Nat.le_of_lt hk) (Nat.le_refl _)).symm
    rw [hval] at q8
    have K8 := Lib.hid k8
    have H8 := Lib.hid h8
    have Q8 := Lib.hid q8
    have B8 := Lib.hid b8
    clear k8 h8 q8 b8 hq hbl hbx R7 hK hval
    gi_wp2
    refine ⟨by simp, .inl ⟨_, _, rfl, run_takeDeferred K8.out, ?_⟩⟩
    obtain ⟨v0, v1, v2, -, -, -⟩ := at_block H8.out
    exact ⟨.agg #[.bool s, .slice a nn c, .slice o m d], by simp [results, Try.results39, go_sem, v0, v1, v2], _, rfl, Q8.out, B8.out⟩
end Go.Proofs.Ytdcnkebcpaelpaa.T14
/- Layer 14: tariff.check, Marginal and Bill. -/
namespace Go.Proofs.Ytdcnkebcpaelpaa.T14
open Go.RowKit Go.Shelf C6
attribute [local go_sem] Oper.semAt_some

def isAm (n : Int) : Bool := decide (0 ≤ n) && decide (n ≤ 1099511627776)
set_option maxHeartbeats 2000000 in
theorem isAmount_v (n : Int) (w : World) : Calls Try.prog 43 #[.int .i64 n] w fun e w' => e = .returned (.bool (isAm n)) ∧ Below w.heap.size w w' := by
  by_cases h0 : 0 ≤ n
  · have d0 : decide (0 ≤ n) = true := decide_eq_true h0
    clear h0
    go_enter Try.func43, Try.ntmps43
    go_wp2_with fail
    go_ret
    exact ⟨by simp [isAm, d0], Below.refl _ _⟩
  · have d0 : decide (0 ≤ n) = false := decide_eq_false h0
    clear h0
    go_enter Try.func43, Try.ntmps43
    go_wp2_with fail
    go_ret
    exact ⟨by simp [isAm, d0], Below.refl _ _⟩

set_option maxHeartbeats 4000000 in
set_option maxRecDepth 100000 in
theorem check_v (st : Int) (ao : Option Addr) (cap : Nat) (bs : List (Int × Int)) (am : Int) (w : World) (h : RdK w ao cap bs) (hl : bs.length ≤ 100) :
    Calls Try.prog 38 #[.agg #[.int .i64 st, .slice ao bs.length cap], .int .i64 am] w (ErrIs (aE st bs am) w) := by
  obtain ⟨n, hn⟩ : ∃ n, n = bs.length := ⟨_, rfl⟩
  rw [← hn]
  have HB1 : Hid (Below w.heap.size w (w.alloc (.cells #[.int .i64 st, .slice ao n cap] 24))) := below_new w _
  have HA : Hid (∀ w', Below w.heap.size w w' → Calls Try.prog 23 #[.agg #[.int .i64 st, .slice ao n cap]] w' (ErrIs (tE st bs) w')) := fun w' hb => by
    have := Validate_v st ao cap bs w' (h.below hb) hl
    rwa [← hn] at this
  have HE1 : Hid (tE st bs ≠ 0 → aE st bs am = tE st bs) := aE_t
  have HE2 : Hid (tE st bs = 0 → isAm am = false → aE st bs am = 142) := fun h1 h2 => aE_a h1 (by unfold isAm at h2; simp at h2; omega)
  have HE3 : Hid (tE st bs = 0 → isAm am = true → aE st bs am = 0) := fun h1 h2 => by unfold isAm at h2; simp at h2; exact aE_zero h1 h2.1 h2.2
  obtain ⟨er, her⟩ : ∃ er, er = tE st bs := ⟨_, rfl⟩
  obtain ⟨ar, har⟩ : ∃ ar, ar = aE st bs am := ⟨_, rfl⟩
  rw [← her] at HA HE1 HE2 HE3
  rw [← har] at HE1 HE2 HE3 ⊢
  clear h hn hl her har
  by_cases h0 : er = 0
  · subst h0
    have d0 : ((0 : Int) != 0) = false := rfl
    go_enter Try.func38, Try.ntmps38
    go_wp2_with fail
    refine (HA.out _ HB1.out).mono ?_; rintro e w2 ⟨rfl, hB2⟩
    have HW2 : Hid (Below w.heap.size w w2) := HB1.out.trans (hB2.mono HB1.out.size)
    clear hB2
    go_wp2_with fail
    refine (isAmount_v am _).mono ?_; rintro e w3 ⟨rfl, hB3⟩
    have HW3 : Hid (Below w.heap.size w w3) := HW2.out.trans (hB3.mono HW2.out.size)
    clear hB3
    cases hq : isAm am with
    | false =>
      have he := Lib.hid (HE2.out (by trivial) hq)
      clear hq
      go_wp2_with fail
      go_ret
      exact ⟨by rw [he.out]; rfl, HW3.out⟩
    | true =>
      have he := Lib.hid (HE3.out (by trivial) hq)
      clear hq
      go_wp2_with fail
      go_ret
      exact ⟨by rw [he.out]; rfl, HW3.out⟩
  · have d0 : (er != 0) = true := bne_iff_ne.2 h0
    have he := Lib.hid (HE1.out h0)
    clear h0
    go_enter Try.func38, Try.ntmps38
    go_wp2_with fail
    refine (HA.out _ HB1.out).mono ?_; rintro e w2 ⟨rfl, hB2⟩
    have HW2 : Hid (Below w.heap.size w w2) := HB1.out.trans (hB2.mono HB1.out.size)
    clear hB2
    go_wp2_with fail
    go_ret
    exact ⟨by rw [he.out]; rfl, HW2.out⟩

/-- the bill with its error -/
noncomputable def bilQ (st : Int) (bs : List (Int × Int)) (am : Int) : Int := if aE st bs am = 0 then bil st bs am else 0
def MkE (er : Int) (q : Rat) (k : Nat) (w : World) (e : Ending) (w' : World) : Prop := ∃ v, e = .returned (.tuple #[v, .int .i64 er]) ∧ IsQ q k v w' ∧ Below w.heap.size w w'
theorem isq_zero (w : World) (k : Nat) (hk : 1 ≤ k) (hk2 : k ≤ 1000) : IsQ 0 k (.agg #[.bool false, .slice none 0 0, .slice none 0 0]) w := ⟨_, _, _, _, _, _, _, rfl, cq_zero 0 w k hk (by omega)⟩

set_option maxHeartbeats 8000000 in
set_option maxRecDepth 100000 in
theorem Bill_v (st : Int) (ao : Option Addr) (cap : Nat) (bs : List (Int × Int)) (am : Int) (w : World) (h : RdK w ao cap bs) (hl : bs.length ≤ 100) :
    Calls Try.prog 21 #[.agg #[.int .i64 st, .slice ao bs.length cap], .int .i64 am] w (MkE (aE st bs am) ((bilQ st bs am : Int) : Rat) 5 w) := by
  obtain ⟨n, hn⟩ : ∃ n, n = bs.length := ⟨_, rfl⟩
  rw [← hn]
  obtain ⟨W1, hW1⟩ : ∃ W, W = w.alloc (.cells #[.int .i64 st, .slice ao n cap] 24) := ⟨_, rfl⟩
  obtain ⟨W2, hW2⟩ : ∃ W, W = W1.alloc (.cells #[.bool false, .slice none 0 0, .slice none 0 0] 40) := ⟨_, rfl⟩
  have s1 : W1.heap.size = w.heap.size + 1 := by rw [hW1]; simp
  have s2 : W2.heap.size = w.heap.size + 1 + 1 := by rw [hW2]; simp [s1]
  have b1 : Below w.heap.size w W1 := by rw [hW1]; exact below_new w _
  have b2 : Below W1.heap.size W1 W2 := by rw [hW2]; exact below_new W1 _
  have t1 : TfBox W1 w.heap.size st ao n cap := by rw [hW1]; exact TfBox.new w _ _ _ _
  have t2 : TfBox W2 w.heap.size st ao n cap := carry t1 b2
  have r2 : W2.heap[w.heap.size + 1]? = some (.cells #[.bool false, .slice none 0 0, .slice none 0 0] 40 (0, 0)) := by rw [hW2, ← s1]; exact heap_alloc_new _ _
  have HB2 : Hid (Below w.heap.size w W2) := b1.trans (b2.mono b1.size)
  have HC : Hid (∀ w', Below w.heap.size w w' → Calls Try.prog 38 #[.agg #[.int .i64 st, .slice ao n cap], .int .i64 am] w' (ErrIs (aE st bs am) w')) := fun w' hb => by
    have := check_v st ao cap bs am w' (h.below hb) hl
    rwa [← hn] at this
  have HL : Hid (aE st bs am = 0 → ∀ w', Below w.heap.size w w' → Calls Try.prog 39 #[.agg #[.int .i64 st, .slice ao n cap], .int .i64 am] w' (Mk ((bil st bs am : Int) : Rat) 5 w')) := fun he w' hb => by
    obtain ⟨h1, h2, h3⟩ := aE_ok he
    have := bill_z st ao cap bs am w' h1 (h.below hb) h2 h3
    rwa [← hn] at this
  have HQ1 : Hid (aE st bs am = 0 → bilQ st bs am = bil st bs am) := fun h => if_pos h
  have HQ0 : Hid (aE st bs am ≠ 0 → bilQ st bs am = 0) := fun h => if_neg h
  obtain ⟨er, her⟩ : ∃ er, er = aE st bs am := ⟨_, rfl⟩
  rw [← her] at HC HL HQ1 HQ0 ⊢
  have T2 := Lib.hid t2
  have R2 := Lib.hid r2
  have S2 := Lib.hid s2
  clear h hn hl her s1 s2 b1 b2 t1 t2 r2
  obtain ⟨u0, u1⟩ := T2.out.cells
  have HU : Hid (W2 = (w.alloc (.cells #[.int .i64 st, .slice ao n cap] 24)).alloc (.cells #[.bool false, .slice none 0 0, .slice none 0 0] 40)) := by unfold Hid; rw [hW2, hW1]
  clear hW1 hW2
  have rest : ∀ w2, Below W2.heap.size W2 w2 → Hid (w2.heap[w.heap.size + 1]? = some (.cells #[.bool false, .slice none 0 0, .slice none 0 0] 40 (0, 0)) ∧ TfBox w2 w.heap.size st ao n cap ∧ Below w.heap.size w w2) := fun w2 hb => ⟨carry R2.out hb, carry T2.out hb, HB2.out.trans (hb.mono HB2.out.size)⟩
  have REST := Lib.hid rest
  clear rest
  by_cases h0 : er = 0
  · subst h0
    have d0 : ((0 : Int) != 0) = false := rfl
    go_enter Try.func21, Try.ntmps21
    go_wp2_with fail
    rw [← HU.out]
    refine (HC.out _ HB2.out).mono ?_; rintro e w2 ⟨rfl, hB2⟩
    have K2 := REST.out w2 hB2
    clear hB2 u0 u1
    obtain ⟨u0, u1⟩ := K2.out.2.1.cells
    go_wp2_with fail
    refine (HL.out (by trivial) _ K2.out.2.2).mono ?_; rintro e w3 ⟨v3, rfl, ⟨s, a, nn, c, o, m, d, rfl, q3⟩, b3⟩
    have r3 := carry K2.out.1 b3
    have hlt : w.heap.size + 1 < w3.heap.size := (Array.getElem?_eq_some_iff.1 r3).1
    have FIN : Hid (MkE 0 ((bilQ st bs am : Int) : Rat) 5 w (.returned (.tuple #[.agg #[.bool s, .slice a nn c, .slice o m d], .int .i64 0])) (((w3.setCell ⟨w.heap.size + 1, 0, none⟩ (.bool s)).setCell ⟨w.heap.size + 1, 1, none⟩ (.slice a nn c)).setCell ⟨w.heap.size + 1, 2, none⟩ (.slice o m d))) := by
      rw [HQ1.out (by trivial)]
      exact ⟨_, rfl, ⟨_, _, _, _, _, _, _, rfl, CQ.extT (by decide) q3 (ExtT.set3 (n := 0) ⟨_, _, _, r3⟩ (Nat.zero_le _) _ _ _)⟩, below3 (K2.out.2.2.trans (b3.mono K2.out.2.2.size)) (by omega) _ _ _⟩
    have r4 := set3_at r3 (.bool s) (.slice a nn c) (.slice o m d)
    obtain ⟨p0, p1, p2, z0, z1, z2⟩ := at_block r3
    have R4 := Lib.hid r4
    clear r3 r4 q3 b3 u0 u1 hlt
    go_wp2_with fail
    obtain ⟨o0, o1, o2, -, -, -⟩ := at_block R4.out
    refine bodyPost_ret (v := .tuple #[.agg #[.bool s, .slice a nn c, .slice o m d], .int .i64 0]) (by simp [results, Try.results21, go_sem, o0, o1, o2]) rfl ?_
    exact FIN.out
  · have d0 : (er != 0) = true := bne_iff_ne.2 h0
    have hz := Lib.hid (HQ0.out h0)
    clear h0
    go_enter Try.func21, Try.ntmps21
    go_wp2_with fail
    rw [← HU.out]
    refine (HC.out _ HB2.out).mono ?_; rintro e w2 ⟨rfl, hB2⟩
    have K2 := REST.out w2 hB2
    clear hB2 u0 u1
    obtain ⟨p0, p1, p2, z0, z1, z2⟩ := at_block K2.out.1
    have r4 := set3_at K2.out.1 (.bool false) (.slice none 0 0) (.slice none 0 0)
    have R4 := Lib.hid r4
    clear r4
    go_wp2_with fail
    obtain ⟨o0, o1, o2, -, -, -⟩ := at_block R4.out
    refine bodyPost_ret (v := .tuple #[.agg #[.bool false, .slice none 0 0, .slice none 0 0], .int .i64 er]) (by simp [results, Try.results21, go_sem, o0, o1, o2]) rfl ?_
    exact ⟨_, rfl, by rw [hz.out]; exact isq_zero _ 5 (by omega) (by omega), below3 K2.out.2.2 (by omega) _ _ _⟩
end Go.Proofs.Ytdcnkebcpaelpaa.T14
/- Layer 14: tariff.Marginal. -/
namespace Go.Proofs.Ytdcnkebcpaelpaa.T14
open Go.RowKit Go.Shelf C6
attribute [local go_sem] Oper.semAt_some

noncomputable def mrgQ (st : Int) (bs : List (Int × Int)) (am : Int) : Int := if aE st bs am = 0 then mrg am bs else 0
def ZE (er z : Int) (w : World) (e : Ending) (w' : World) : Prop := e = .returned (.tuple #[.int .i64 z, .int .i64 er]) ∧ Below w.heap.size w w'
theorem mrg_at {bs : List (Int × Int)} {am : Int} (h1 : am ≤ 1099511627776) : ∀ {k : Nat}, k < bs.length → (∀ i, i < k → ¬ am < hiI bs i) → am < hiI bs k → mrg am bs = prc bs k := by
  intro k hk hn hs
  have key : ∀ j i, i + j = k → mrg am (bs.drop i) = prc bs k := by
    intro j
    induction j with
    | zero =>
      intro i hi
      obtain rfl : i = k := by omega
      rw [mrg_drop _ _ _ hk, if_pos]
      unfold hiI at hs
      split at hs
      · left; assumption
      · right; exact hs
    | succ j ih =>
      intro i hi
      rw [mrg_drop _ _ _ (by omega), if_neg, ih (i + 1) (by omega)]
      have := hn i (by omega)
      unfold hiI at this
      split at this
      · omega
      · rename_i h0
        rintro (h | h)
        · exact h0 h
        · exact this h
  have := key k 0 (by omega)
  simpa using this
theorem last_hi {bs : List (Int × Int)} (h : OkB bs) {am : Int} (h1 : am ≤ 1099511627776) (hn : ∀ i ∈ List.range bs.length, ¬ am < hiI bs i) : False := by
  have hp := h.pos
  have := hn (bs.length - 1) (List.mem_range.2 (by omega))
  unfold hiI at this
  rw [if_pos (h.last _ (by omega))] at this
  omega

end Go.Proofs.Ytdcnkebcpaelpaa.T14
