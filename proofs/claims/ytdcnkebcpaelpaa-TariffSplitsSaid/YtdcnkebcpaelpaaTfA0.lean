import Derived.WalkKit
import Derived.Test.YtdcnkebcpaelpaaInts10
import Derived.RangeFuncNested
import Derived.RangeFuncBound
import Derived.RangeFuncCalls
import Derived.RangeFuncLeaves
import Derived.Shelf.Abstract
import Derived.Shelf.RegionOpen
import Derived.OwnWalkIn
import Derived.TacticsInMore
import Derived.LoopNIn
import Derived.LoopIn
import Derived.Deep.Cut
/- The mathematics of tariffs: blocks, bills, the price of the next unit. -/
namespace Go.Proofs.Ytdcnkebcpaelpaa.T14

def up (bs : List (Int × Int)) (i : Nat) : Int := (bs.getD i (0, 0)).1
def prc (bs : List (Int × Int)) (i : Nat) : Int := (bs.getD i (0, 0)).2
/-- where the block before ends -/
def prev (bs : List (Int × Int)) : Nat → Int
  | 0 => 0
  | i + 1 => up bs i
/-- the blocks are as they have to be -/
structure OkB (bs : List (Int × Int)) : Prop where
  pos : 1 ≤ bs.length
  len : bs.length ≤ 8
  price : ∀ i, i < bs.length → 0 ≤ prc bs i ∧ prc bs i ≤ 1099511627776
  lim : ∀ i, i + 1 < bs.length → prev bs i < up bs i ∧ up bs i ≤ 1099511627776
  last : ∀ i, i + 1 = bs.length → up bs i = 0
open Classical in
/-- the first error of a tariff -/
noncomputable def tE (st : Int) (bs : List (Int × Int)) : Int := if st < 0 ∨ 1099511627776 < st then 140 else if OkB bs then 0 else 141
/-- .. and of a tariff and an amount -/
noncomputable def aE (st : Int) (bs : List (Int × Int)) (a : Int) : Int := if tE st bs ≠ 0 then tE st bs else if a < 0 ∨ 1099511627776 < a then 142 else 0
theorem tE_ok {st : Int} {bs : List (Int × Int)} (h : tE st bs = 0) : 0 ≤ st ∧ st ≤ 1099511627776 ∧ OkB bs := by
  unfold tE at h
  split at h
  · cases h
  · split at h
    · rename_i h1 h2; exact ⟨by omega, by omega, h2⟩
    · cases h
theorem tE_zero {st : Int} {bs : List (Int × Int)} (h0 : 0 ≤ st) (h1 : st ≤ 1099511627776) (h : OkB bs) : tE st bs = 0 := by
  unfold tE; rw [if_neg (by omega), if_pos h]
theorem tE_st {st : Int} {bs : List (Int × Int)} (h : st < 0 ∨ 1099511627776 < st) : tE st bs = 140 := by
  unfold tE; rw [if_pos h]
theorem tE_bad {st : Int} {bs : List (Int × Int)} (h0 : 0 ≤ st) (h1 : st ≤ 1099511627776) (h : ¬ OkB bs) : tE st bs = 141 := by
  unfold tE; rw [if_neg (by omega), if_neg h]
theorem aE_ok {st : Int} {bs : List (Int × Int)} {a : Int} (h : aE st bs a = 0) : tE st bs = 0 ∧ 0 ≤ a ∧ a ≤ 1099511627776 := by
  unfold aE at h
  split at h
  · contradiction
  · split at h
    · cases h
    · rename_i h1 h2; exact ⟨Classical.not_not.1 h1, by omega, by omega⟩
theorem aE_t {st : Int} {bs : List (Int × Int)} {a : Int} (h : tE st bs ≠ 0) : aE st bs a = tE st bs := by unfold aE; rw [if_pos h]
theorem aE_a {st : Int} {bs : List (Int × Int)} {a : Int} (h : tE st bs = 0) (ha : a < 0 ∨ 1099511627776 < a) : aE st bs a = 142 := by unfold aE; rw [if_neg (fun h2 => h2 h), if_pos ha]
theorem aE_zero {st : Int} {bs : List (Int × Int)} {a : Int} (h : tE st bs = 0) (h0 : 0 ≤ a) (h1 : a ≤ 1099511627776) : aE st bs a = 0 := by unfold aE; rw [if_neg (fun h2 => h2 h), if_neg (by omega)]

theorem OkB.prev0 {bs : List (Int × Int)} (h : OkB bs) : ∀ i, i < bs.length → 0 ≤ prev bs i ∧ prev bs i ≤ 1099511627776
  | 0, _ => ⟨by simp [prev], by simp [prev]⟩
  | i + 1, hi => by
    have h1 := h.lim i hi
    have h2 := h.prev0 i (by omega)
    show 0 ≤ up bs i ∧ up bs i ≤ _
    omega
theorem OkB.prev_mono {bs : List (Int × Int)} (h : OkB bs) {i j : Nat} (hij : i ≤ j) (hj : j < bs.length) : prev bs i ≤ prev bs j := by
  induction j with
  | zero => have : i = 0 := by omega
            subst this; exact Int.le_refl _
  | succ j ih =>
    rcases Nat.lt_or_ge i (j + 1) with h1 | h1
    · have := ih (by omega) (by omega)
      have h2 := h.lim j hj
      show prev bs i ≤ up bs j
      omega
    · have : i = j + 1 := by omega
      subst this; exact Int.le_refl _
theorem OkB.zero_iff {bs : List (Int × Int)} (h : OkB bs) {i : Nat} (hi : i < bs.length) : up bs i = 0 ↔ i + 1 = bs.length := by
  constructor
  · intro h0
    rcases Nat.lt_or_ge (i + 1) bs.length with h1 | h1
    · have h2 := h.lim i h1
      have h3 := h.prev0 i hi
      omega
    · omega
  · exact h.last i

/-- the last unit of block i among a units -/
def top (bs : List (Int × Int)) (a : Int) (i : Nat) : Int := if up bs i = 0 then a else min a (up bs i)
/-- how many of a units lie in block i -/
def cnt (bs : List (Int × Int)) (a : Int) (i : Nat) : Int := max 0 (top bs a i - prev bs i)
/-- the bill over the first blocks -/
def acc (st : Int) (bs : List (Int × Int)) (a : Int) : Nat → Int
  | 0 => st
  | i + 1 => acc st bs a i + cnt bs a i * prc bs i
def bil (st : Int) (bs : List (Int × Int)) (a : Int) : Int := acc st bs a bs.length
theorem top_le {bs : List (Int × Int)} {a : Int} {i : Nat} : top bs a i ≤ a := by unfold top; split <;> omega
theorem cnt_zero {bs : List (Int × Int)} {a : Int} {i : Nat} (h : top bs a i ≤ prev bs i) : cnt bs a i = 0 := by unfold cnt; omega
theorem cnt_pos {bs : List (Int × Int)} {a : Int} {i : Nat} (h : prev bs i ≤ top bs a i) : cnt bs a i = top bs a i - prev bs i := by unfold cnt; omega
theorem OkB.top_gt {bs : List (Int × Int)} (h : OkB bs) {a : Int} {i : Nat} (hi : i < bs.length) (ha : prev bs i < a) : prev bs i < top bs a i := by
  unfold top
  split
  · exact ha
  · rename_i h0
    have : i + 1 < bs.length := by
      rcases Nat.lt_or_ge (i + 1) bs.length with h1 | h1
      · exact h1
      · exact absurd (h.last i (by omega)) h0
    have := h.lim i this
    omega
theorem OkB.cnt_mag {bs : List (Int × Int)} (h : OkB bs) {a : Int} (h0 : 0 ≤ a) (h1 : a ≤ 1099511627776) {i : Nat} (hi : i < bs.length) : 0 ≤ cnt bs a i ∧ cnt bs a i ≤ 1099511627776 := by
  have := h.prev0 i hi
  have := @top_le bs a i
  unfold cnt; omega
theorem OkB.acc_mag {st : Int} {bs : List (Int × Int)} (h : OkB bs) (hs0 : 0 ≤ st) (hs1 : st ≤ 1099511627776) {a : Int} (h0 : 0 ≤ a) (h1 : a ≤ 1099511627776) : ∀ i, i ≤ bs.length → 0 ≤ acc st bs a i ∧ acc st bs a i ≤ 1099511627776 + i * 1208925819614629174706176
  | 0, _ => ⟨hs0, by show st ≤ _; omega⟩
  | i + 1, hi => by
    have ih := h.acc_mag hs0 hs1 h0 h1 i (by omega)
    have hc := h.cnt_mag h0 h1 (i := i) (by omega)
    have hp := h.price i (by omega)
    have m0 : 0 ≤ cnt bs a i * prc bs i := Int.mul_nonneg hc.1 hp.1
    have m1 : cnt bs a i * prc bs i ≤ 1099511627776 * 1099511627776 := Int.mul_le_mul hc.2 hp.2 hp.1 (by omega)
    show 0 ≤ acc st bs a i + _ ∧ acc st bs a i + _ ≤ _
    omega
theorem OkB.acc_stop {st : Int} {bs : List (Int × Int)} (h : OkB bs) {a : Int} {i : Nat} (ha : a ≤ prev bs i) : ∀ j, i ≤ j → j ≤ bs.length → acc st bs a j = acc st bs a i := by
  intro j
  induction j with
  | zero => intro hij _; have : i = 0 := by omega
            subst this; rfl
  | succ j ih =>
    intro hij hj
    rcases Nat.lt_or_ge i (j + 1) with h1 | h1
    · have h2 := h.prev_mono (show i ≤ j by omega) (by omega)
      have h3 := @top_le bs a j
      show acc st bs a j + cnt bs a j * prc bs j = _
      rw [cnt_zero (by omega), ih (by omega) (by omega)]
      simp
    · have : i = j + 1 := by omega
      subst this; rfl
theorem OkB.bil_mag {st : Int} {bs : List (Int × Int)} (h : OkB bs) (hs0 : 0 ≤ st) (hs1 : st ≤ 1099511627776) {a : Int} (h0 : 0 ≤ a) (h1 : a ≤ 1099511627776) : 0 ≤ bil st bs a ∧ bil st bs a ≤ 9671406556918132909277184 := by
  have h2 := h.acc_mag hs0 hs1 h0 h1 bs.length (Nat.le_refl _)
  have h3 := h.len
  unfold bil
  omega

/-- the price of the unit behind a units -/
def mrg (a : Int) : List (Int × Int) → Int
  | [] => 0
  | b :: r => if b.1 = 0 ∨ a < b.1 then b.2 else mrg a r
theorem mrg_drop (bs : List (Int × Int)) (a : Int) (i : Nat) (hi : i < bs.length) : mrg a (bs.drop i) = if up bs i = 0 ∨ a < up bs i then prc bs i else mrg a (bs.drop (i + 1)) := by
  rw [List.drop_eq_getElem_cons hi]
  show (if bs[i].1 = 0 ∨ a < bs[i].1 then bs[i].2 else _) = _
  simp [up, prc, List.getD, hi]
/-- one unit more -/
theorem OkB.next {st : Int} {bs : List (Int × Int)} (h : OkB bs) {a : Int} (h0 : 0 ≤ a) : bil st bs (a + 1) - bil st bs a = mrg a bs := by
  have key : ∀ k i, i + k = bs.length → prev bs i ≤ a → (acc st bs (a + 1) bs.length - acc st bs (a + 1) i) - (acc st bs a bs.length - acc st bs a i) = mrg a (bs.drop i) := by
    intro k
    induction k with
    | zero =>
      intro i hi _
      obtain rfl : i = bs.length := by omega
      simp [mrg]
    | succ k ih =>
      intro i hi hp
      have hil : i < bs.length := by omega
      rw [mrg_drop bs a i hil]
      have ea : acc st bs a (i + 1) = acc st bs a i + cnt bs a i * prc bs i := rfl
      have eb : acc st bs (a + 1) (i + 1) = acc st bs (a + 1) i + cnt bs (a + 1) i * prc bs i := rfl
      by_cases hu : up bs i = 0 ∨ a < up bs i
      · rw [if_pos hu]
        have t1 : top bs a i = a := by unfold top; split <;> omega
        have t2 : top bs (a + 1) i = a + 1 := by unfold top; split <;> omega
        have c1 : cnt bs (a + 1) i = cnt bs a i + 1 := by rw [cnt_pos (by omega), cnt_pos (by omega), t1, t2]; omega
        rw [c1, Int.add_mul, Int.one_mul] at eb
        have stop : acc st bs (a + 1) bs.length = acc st bs (a + 1) (i + 1) ∧ acc st bs a bs.length = acc st bs a (i + 1) := by
          rcases Nat.lt_or_ge (i + 1) bs.length with h1 | h1
          · have h2 : up bs i ≠ 0 := fun e => by have := (h.zero_iff hil).1 e; omega
            have h3 : a + 1 ≤ prev bs (i + 1) := by show a + 1 ≤ up bs i; omega
            exact ⟨h.acc_stop h3 _ (by omega) (Nat.le_refl _), h.acc_stop (by omega) _ (by omega) (Nat.le_refl _)⟩
          · have : i + 1 = bs.length := by omega
            rw [this]; exact ⟨rfl, rfl⟩
        rw [stop.1, stop.2]
        omega
      · rw [if_neg hu]
        have t1 : top bs a i = up bs i := by unfold top; rw [if_neg (by omega)]; omega
        have t2 : top bs (a + 1) i = up bs i := by unfold top; rw [if_neg (by omega)]; omega
        have c1 : cnt bs (a + 1) i = cnt bs a i := by unfold cnt; rw [t1, t2]
        rw [c1] at eb
        have := ih (i + 1) (by omega) (by show up bs i ≤ a; omega)
        omega
  have := key bs.length 0 (by omega) (by simpa [prev] using h0)
  simp only [acc, List.drop_zero] at this
  unfold bil
  omega
theorem OkB.none {st : Int} {bs : List (Int × Int)} (h : OkB bs) : bil st bs 0 = st := h.acc_stop (i := 0) (a := 0) (by simp [prev]) _ (by omega) (Nat.le_refl _)
end Go.Proofs.Ytdcnkebcpaelpaa.T14
/- Layer 14: pairs of integers in memory (blocks of a tariff, uses): slices that read them, rows of one's own. -/
namespace Go.Proofs.Ytdcnkebcpaelpaa.T14
open Go.RowKit Go.Sort C6

def encP (x : Int × Int) : List Value := [.int .i64 x.1, .int .i64 x.2]
def bkv (l : List (Int × Int)) : List Value := l.flatMap encP
theorem bkv_nil : bkv [] = [] := rfl
theorem bkv_cons (x : Int × Int) (l : List (Int × Int)) : bkv (x :: l) = .int .i64 x.1 :: .int .i64 x.2 :: bkv l := rfl
theorem bkv_append (l m : List (Int × Int)) : bkv (l ++ m) = bkv l ++ bkv m := by simp [bkv]
theorem bkv_one (l : List (Int × Int)) (x : Int × Int) : bkv (l ++ [x]) = bkv l ++ [.int .i64 x.1, .int .i64 x.2] := by rw [bkv_append]; rfl
theorem bkv_length (l : List (Int × Int)) : (bkv l).length = l.length * 2 := by
  induction l with
  | nil => rfl
  | cons x l ih => rw [bkv_cons, List.length_cons, List.length_cons, List.length_cons, ih]; omega
theorem bkv_at (l : List (Int × Int)) (i : Nat) (hi : i < l.length) : (bkv l)[i * 2]? = some (.int .i64 (l.getD i (0, 0)).1) ∧ (bkv l)[i * 2 + 1]? = some (.int .i64 (l.getD i (0, 0)).2) := by
  induction l generalizing i with
  | nil => simp at hi
  | cons x l ih =>
    cases i with
    | zero => exact ⟨rfl, rfl⟩
    | succ i =>
      have h := ih i (by simpa using hi)
      have e1 : (i + 1) * 2 = i * 2 + 1 + 1 := by omega
      rw [e1, bkv_cons]
      simpa [List.getD] using h
theorem bkv_one' (l : List (Int × Int)) : ∀ u ∈ bkv l, u.oneCell' = true := by
  intro u hu
  unfold bkv at hu
  obtain ⟨x, _, hx⟩ := List.mem_flatMap.1 hu
  simp [encP] at hx
  rcases hx with rfl | rfl <;> rfl
/-- two cells at an address -/
def At2i (w : World) (b o : Nat) (x : Int × Int) : Prop := w.cell? ⟨b, o, none⟩ = some (.int .i64 x.1) ∧ w.cell? ⟨b, o + 1, none⟩ = some (.int .i64 x.2)
/-- the slice at ao, of capacity cap, reads the attributes -/
def RdK (w : World) (ao : Option Addr) (cap : Nat) (l : List (Int × Int)) : Prop :=
  l.length ≤ cap ∧ cap ≤ 9223372036854775807 ∧
    ((l = [] ∧ (ao = none → cap = 0)) ∨ ∃ b o, ao = some ⟨b, o, none⟩ ∧ ∀ i, i < l.length → At2i w b (o + i * 2) (l.getD i (0, 0)))
theorem RdK.nil (w : World) : RdK w none 0 [] := ⟨by simp, by omega, .inl ⟨rfl, fun _ => rfl⟩⟩
theorem RdK.at {w : World} {ao : Option Addr} {cap : Nat} {l : List (Int × Int)} (h : RdK w ao cap l) {i : Nat} (hi : i < l.length) : ∃ b o, ao = some ⟨b, o, none⟩ ∧ ∀ i, i < l.length → At2i w b (o + i * 2) (l.getD i (0, 0)) := by
  rcases h.2.2 with ⟨rfl, _⟩ | h
  · simp at hi
  · exact h
theorem At2i.lt {w : World} {b o : Nat} {x : Int × Int} (h : At2i w b o x) : b < w.heap.size := World.block_lt_of_cell? _ _ h.1
/-- the block that it reads, if it reads anything -/
def offB (ao : Option Addr) (l : List (Int × Int)) (p : Nat → Prop) : Prop := 0 < l.length → ∀ b o, ao = some ⟨b, o, none⟩ → p b
theorem RdK.lt {w : World} {ao : Option Addr} {cap : Nat} {l : List (Int × Int)} (h : RdK w ao cap l) : offB ao l (fun b => b < w.heap.size) := by
  intro h0 b o e
  obtain ⟨b', o', e', hc⟩ := h.at h0
  rw [e] at e'
  cases e'
  exact (hc 0 h0).lt
theorem RdK.same {w w' : World} {ao : Option Addr} {cap : Nat} {l : List (Int × Int)} (h : RdK w ao cap l) (hs : offB ao l (fun b => ∀ o v, w.cell? ⟨b, o, none⟩ = some v → w'.cell? ⟨b, o, none⟩ = some v)) : RdK w' ao cap l := by
  refine ⟨h.1, h.2.1, ?_⟩
  rcases h.2.2 with hn | ⟨b, o, e, hc⟩
  · exact .inl hn
  · refine .inr ⟨b, o, e, fun i hi => ?_⟩
    have hl : 0 < l.length := by omega
    exact ⟨hs hl b o e _ _ (hc i hi).1, hs hl b o e _ _ (hc i hi).2⟩
theorem RdK.keep {w w' : World} {B : Nat} {ao : Option Addr} {cap : Nat} {l : List (Int × Int)} (h : RdK w ao cap l) (hb : offB ao l (fun b => b < B)) (g : Below B w w') : RdK w' ao cap l :=
  h.same (fun h0 b o e p _ hv => (g.cell (p := ⟨b, p, none⟩) (hb h0 b o e)).trans hv)
theorem RdK.below {w w' : World} {ao : Option Addr} {cap : Nat} {l : List (Int × Int)} (h : RdK w ao cap l) (g : Below w.heap.size w w') : RdK w' ao cap l := h.keep h.lt g
theorem RdK.gbne {w w' : World} {gr : Nat} {ao : Option Addr} {cap : Nat} {l : List (Int × Int)} (h : RdK w ao cap l) (hne : offB ao l (fun b => b ≠ gr)) (g : w.grownBy w' (some gr)) : RdK w' ao cap l :=
  h.same (fun h0 b o e _ _ hv => g.cell hv (fun q => hne h0 b o e (Option.some.inj q)))
theorem RdK.grown {w w' : World} {row : Option Nat} {ao : Option Addr} {cap : Nat} {l : List (Int × Int)} (h : RdK w ao cap l) (hne : offB ao l (fun b => some b ≠ row)) (g : w.grownBy w' row) : RdK w' ao cap l :=
  h.same (fun h0 b o e _ _ hv => g.cell hv (hne h0 b o e))
theorem RdK.drew {w : World} {ao : Option Addr} {cap : Nat} {l : List (Int × Int)} (h : RdK w ao cap l) (n : Nat) : RdK (w.drewN n) ao cap l := h
theorem RdK.take {w : World} {ao : Option Addr} {cap : Nat} {l : List (Int × Int)} (h : RdK w ao cap l) (k : Nat) : RdK w ao cap (l.take k) := by
  refine ⟨by rw [List.length_take]; have := h.1; omega, h.2.1, ?_⟩
  rcases h.2.2 with ⟨rfl, h3⟩ | ⟨b, o, rfl, h3⟩
  · exact .inl ⟨by simp, h3⟩
  · refine .inr ⟨b, o, rfl, fun i hi => ?_⟩
    rw [List.length_take] at hi
    have := h3 i (by omega)
    rwa [show (l.take k).getD i (0, 0) = l.getD i (0, 0) by simp [List.getD, show i < k by omega]]
/-- the cells that an append copies -/
theorem RdK.news {w : World} {ao : Option Addr} {cap : Nat} {l : List (Int × Int)} (h : RdK w ao cap l) (h0 : 0 < l.length) : ∃ b o, ao = some ⟨b, o, none⟩ ∧ ∀ j u, (bkv l)[j]? = some u → w.cell? ((⟨b, o, none⟩ : Addr).add j) = some u := by
  obtain ⟨b, o, e, hc⟩ := h.at h0
  refine ⟨b, o, e, fun j u hj => ?_⟩
  have hl := (List.getElem?_eq_some_iff.1 hj).1
  rw [bkv_length] at hl
  have hi : j / 2 < l.length := by omega
  obtain ⟨a0, a1⟩ := bkv_at l (j / 2) hi
  obtain ⟨c0, c1⟩ := hc (j / 2) hi
  rw [Addr.add_lit]
  by_cases hm : j % 2 = 0
  · rw [show j / 2 * 2 = j by omega] at a0 c0
    rw [a0] at hj
    cases hj
    exact c0
  · rw [show j / 2 * 2 + 1 = j by omega] at a1
    rw [show o + j / 2 * 2 + 1 = o + j by omega] at c1
    rw [a1] at hj
    cases hj
    exact c1
theorem infoBlk : (Try.prog.info? 51).map (fun i => (i.zero, i.size, i.bytes)) = some (some (.agg #[.int .i64 0, .int .i64 0]), 2, 16) := by kernel_rfl
/-- a row of the function's own reads its attributes -/
theorem RdK.of_row {w : World} {base n : Nat} {v : Value} {l : List (Int × Int)} {t : TypeId} (h : w.ownsRow base t 2 v n (bkv l)) : ∃ ao cap, v = .slice ao l.length cap ∧ RdK w ao cap l ∧ offB ao l (fun b => base ≤ b) ∧ v.ownBlock = ao.map (·.block) := by
  have hlen : l.length = n := by have := h.1; rw [bkv_length] at this; omega
  subst hlen
  rcases h.2 with ⟨rfl, h0⟩ | ⟨g, cap, cur, rfl, _, _, hn, hc, _, _⟩
  · have : l = [] := List.eq_nil_of_length_eq_zero h0
    subst this
    exact ⟨none, 0, rfl, RdK.nil _, fun h => by simp at h, rfl⟩
  · refine ⟨_, cap, rfl, ⟨hn, by unfold maxLen at hc; omega, .inr ⟨g, 0, rfl, fun i hi => ?_⟩⟩, fun _ b o e => by cases e; exact (h.lt g rfl).1, rfl⟩
    obtain ⟨a0, a1⟩ := bkv_at l i hi
    refine ⟨?_, ?_⟩
    · rw [Nat.zero_add, h.cellAt (i * 2) (by omega), a0]
    · rw [Nat.zero_add, h.cellAt (i * 2 + 1) (by omega), a1]
theorem of_row_k {w : World} {base n : Nat} {v : Value} {xs : List Value} {t : TypeId} {k : Nat} (h : w.ownsRow base t k v n xs) : ∃ a c, v = .slice a n c := by
  rcases h.2 with ⟨rfl, h0⟩ | ⟨g, cap, cur, rfl, _⟩
  · subst h0; exact ⟨_, _, rfl⟩
  · exact ⟨_, _, rfl⟩
/-- the two cells as the code reads them -/
theorem RdK.cells {w : World} {b o cap : Nat} {l : List (Int × Int)} (h : RdK w (some ⟨b, o, none⟩) cap l) (i : Nat) (hi : i < l.length) : w.cell? ⟨b, o + i * 2, none⟩ = some (.int .i64 (up l i)) ∧ w.cell? ⟨b, o + i * 2 + 1, none⟩ = some (.int .i64 (prc l i)) := by
  obtain ⟨b', o', e, hc⟩ := h.at hi
  cases e
  exact hc i hi
end Go.Proofs.Ytdcnkebcpaelpaa.T14
/- Layer 14: tariff.stretches: the iterator over a valid tariff's blocks. -/
namespace Go.Proofs.Ytdcnkebcpaelpaa.T14
open Go.RowKit Go.Shelf C6
attribute [local go_sem] Oper.semAt_some

/-- where a block ends: the last one nowhere -/
def hiI (bs : List (Int × Int)) (i : Nat) : Int := if up bs i = 0 then 9223372036854775807 else up bs i
/-- a stretch as a value -/
def stv (bs : List (Int × Int)) (i : Nat) : Value := .agg #[.int .i64 (prev bs i), .int .i64 (hiI bs i), .int .i64 (prc bs i)]
/-- what the iterator has before a round -/
def bef (bs : List (Int × Int)) : Nat → Int
  | 0 => 0
  | i + 1 => hiI bs i
theorem OkB.bef_prev {bs : List (Int × Int)} (h : OkB bs) : ∀ i, i < bs.length → bef bs i = prev bs i
  | 0, _ => rfl
  | i + 1, hi => by
    show hiI bs i = up bs i
    unfold hiI
    rw [if_neg (fun e => by have := (h.zero_iff (i := i) (by omega)).1 e; omega)]
/-- the tariff's box -/
def TfBox (w : World) (g : Nat) (st : Int) (ao : Option Addr) (n cap : Nat) : Prop := w.heap[g]? = some (.cells #[.int .i64 st, .slice ao n cap] 24 (0, 0))
theorem TfBox.cells {w : World} {g : Nat} {st : Int} {ao : Option Addr} {n cap : Nat} (h : TfBox w g st ao n cap) : w.cell? ⟨g, 0, none⟩ = some (.int .i64 st) ∧ w.cell? ⟨g, 1, none⟩ = some (.slice ao n cap) := by
  unfold TfBox at h
  constructor <;> simp [World.cell?, h]
theorem TfBox.lt {w : World} {g : Nat} {st : Int} {ao : Option Addr} {n cap : Nat} (h : TfBox w g st ao n cap) : g < w.heap.size := (Array.getElem?_eq_some_iff.1 h).1
theorem TfBox.below {w w' : World} {B g : Nat} {st : Int} {ao : Option Addr} {n cap : Nat} (h : TfBox w g st ao n cap) (hb : Below B w w') (hg : g < B) : TfBox w' g st ao n cap := (hb.block g hg).trans h
theorem TfBox.new (w : World) (st : Int) (ao : Option Addr) (n cap : Nat) : TfBox (w.alloc (.cells #[.int .i64 st, .slice ao n cap] 24)) w.heap.size st ao n cap := World.alloc_heap_new w _

theorem abides_alloc {β : Type} {B : Nat} {J : β → World → Prop} (h : AbidesFrom B J) {s : β} {W : World} (o : Obj) (hs : J s W) : J s (W.alloc o) :=
  h s W _ none hs (World.grownBy_alloc W o none) (fun r e => by cases e)

set_option maxRecDepth 100000 in
set_option maxHeartbeats 8000000 in
theorem stretches1_v (n : Nat) (l g n₀ b o cap : Nat) (st : Int) (bs : List (Int × Int)) (hok : OkB bs) (hb : b < n₀) (J Jx : List Nat → World → Prop) (W : World) (hn₀ : n₀ ≤ W.heap.size) (hJ : AbidesFrom W.heap.size J)
    (hY : ∀ pre x W, J pre W → pre.length < bs.length → YieldAt Fence.wide (n - 1) Try.prog l #[stv bs x] W fun e W' =>
      (e = .returned (.bool true) ∧ J (pre ++ [x]) W' ∧ Below n₀ W W') ∨ (e = .returned (.bool false) ∧ Jx (pre ++ [x]) W'))
    (hg : TfBox W g st (some ⟨b, o, none⟩) bs.length cap) (hc : ∀ i, i < bs.length → W.cell? ⟨b, o + i * 2, none⟩ = some (.int .i64 (up bs i)) ∧ W.cell? ⟨b, o + i * 2 + 1, none⟩ = some (.int .i64 (prc bs i))) (h0 : J [] W) :
    CallsIn Fence.wide n Try.prog 75 #[.func (.yield l) #[] #[], .pointer (some ⟨g, 0, none⟩)] W fun e W' => (∃ v, e = .returned v) ∧
      ((∃ ys, ys = List.range bs.length ∧ J ys W') ∨ (∃ pre, (∃ k, k < bs.length ∧ pre = List.range (k + 1)) ∧ Jx pre W')) := by
  obtain ⟨N, hN⟩ : ∃ N, N = bs.length := ⟨_, rfl⟩
  have hN8 : N ≤ 8 := by have := hok.len; omega
  obtain ⟨g0, g1⟩ := hg.cells
  rw [← hN] at g1 hc hY ⊢
  have HC := Lib.hid hc
  have HOK : Hid (OkB bs) := hok
  have HNN := Lib.hid hN
  have HN0 := Lib.hid hn₀
  clear hc hok hN hg hn₀
  refine callsIn_of_wp Try.func75 rfl trivial ?_ rfl
  simp only [Try.ntmps75, List.size_toArray, List.length_cons, List.length_nil, Nat.reduceAdd, Nat.reduceSub, Array.replicate_succ, Array.replicate_zero, List.push_toArray, List.append_toArray, List.nil_append, List.cons_append]
  gi_wp2
  gi_loopw [3, 10] (fun s3 s10 wr => ∃ k : Nat, k ≤ N ∧ s10 = .int .i64 k ∧ s3 = .int .i64 (bef bs k) ∧ J (List.range k) wr ∧ Hid (Below n₀ W wr))
    (fun _ i _ => N - (intOf i).toNat)
  case atStart => exact ⟨0, Nat.zero_le _, rfl, rfl, h0, Below.refl _ _⟩
  case round =>
    obtain ⟨k, hk, rfl, rfl, hJs, hnx⟩ := hrel
    by_cases hlt : k < N
    · obtain ⟨c0, c1⟩ := HC.out k hlt
      replace c0 := (hnx.out.cell (p := ⟨b, o + k * 2, none⟩) hb).trans c0
      replace c1 := (hnx.out.cell (p := ⟨b, o + k * 2 + 1, none⟩) hb).trans c1
      have hbef : bef bs k = prev bs k := HOK.out.bef_prev k (by rw [← HNN.out]; exact hlt)
      have hJ1 := abides_alloc hJ (.cells #[.int .i64 (up bs k), .int .i64 (prc bs k)] 51) hJs
      obtain ⟨fn, tmps, assign, body, hy, hR⟩ := hY _ k _ hJ1 (by simp; omega)
      dsimp only [stv] at hy
      have hstep : List.range k ++ [k] = List.range (k + 1) := List.range_succ.symm
      have hB1 : Hid (Below n₀ W (wr.alloc (.cells #[.int .i64 (up bs k), .int .i64 (prc bs k)] 51))) := hnx.out.alloc (Nat.le_trans HN0.out hnx.out.size) _
      have hbn : bef bs (k + 1) = hiI bs k := rfl
      rw [hbef]
      clear hbef
      by_cases hu : up bs k = 0
      · have hh : hiI bs k = 9223372036854775807 := by unfold hiI; rw [if_pos hu]
        rw [hu] at c0 hB1 hJ1 hR hy
        rw [hh] at hbn hy
        have HBN := Lib.hid hbn
        obtain ⟨p, hp⟩ : ∃ p, p = prc bs k := ⟨_, rfl⟩
        obtain ⟨q, hq⟩ : ∃ q, q = prev bs k := ⟨_, rfl⟩
        rw [← hp] at c1 hB1 hJ1 hR hy
        rw [← hq] at hy ⊢
        clear hu hh hp hq hbn
        gi_wp2
        refine ⟨fun h => (by cases h), hR.mono ?_⟩
        rintro e W3 (⟨rfl, hJ3, hk3⟩ | ⟨rfl, hJx3⟩)
        · gi_wp2
          go_roundw
          case rel => exact ⟨k + 1, by omega, by simp, by rw [HBN.out], by rw [← hstep]; exact hJ3, hB1.out.trans hk3⟩
          case measure => simp [intOf]; omega
        · gi_wp2
          refine bodyPost_ret (results_none rfl _ _ _) rfl ?_
          exact ⟨⟨_, rfl⟩, .inr ⟨_, ⟨k, hlt, hstep⟩, hJx3⟩⟩
      · have hh : hiI bs k = up bs k := by unfold hiI; rw [if_neg hu]
        obtain ⟨u, hue⟩ : ∃ u, u = up bs k := ⟨_, rfl⟩
        rw [hh] at hbn hy
        rw [← hue] at c0 hB1 hJ1 hR hy hbn
        have HBN := Lib.hid hbn
        obtain ⟨p, hp⟩ : ∃ p, p = prc bs k := ⟨_, rfl⟩
        obtain ⟨q, hq⟩ : ∃ q, q = prev bs k := ⟨_, rfl⟩
        rw [← hp] at c1 hB1 hJ1 hR hy
        rw [← hq] at hy ⊢
        have hun : (u == 0) = false := beq_eq_false_iff_ne.2 (by rw [hue]; exact hu)
        clear hu hh hp hq hbn hue
        gi_wp2
        refine ⟨fun h => (by cases h), hR.mono ?_⟩
        rintro e W3 (⟨rfl, hJ3, hk3⟩ | ⟨rfl, hJx3⟩)
        · gi_wp2
          go_roundw
          case rel => exact ⟨k + 1, by omega, by simp, by rw [HBN.out], by rw [← hstep]; exact hJ3, hB1.out.trans hk3⟩
          case measure => simp [intOf]; omega
        · gi_wp2
          refine bodyPost_ret (results_none rfl _ _ _) rfl ?_
          exact ⟨⟨_, rfl⟩, .inr ⟨_, ⟨k, hlt, hstep⟩, hJx3⟩⟩
    · obtain rfl : k = N := by omega
      gi_wp2
      go_end0
      exact ⟨⟨_, rfl⟩, .inl ⟨_, rfl, hJs⟩⟩

set_option maxHeartbeats 2000000 in
theorem stretches_v (st : Int) (ao : Option Addr) (n cap : Nat) (w : World) :
    Calls Try.prog 59 #[.agg #[.int .i64 st, .slice ao n cap]] w fun e w' => e = .returned (.func (.func 75) #[] #[.pointer (some ⟨w.heap.size, 0, none⟩)]) ∧ w' = w.alloc (.cells #[.int .i64 st, .slice ao n cap] 24) := by
  go_enter Try.func59, Try.ntmps59
  go_wp2_with fail
  go_ret
  exact ⟨rfl, rfl⟩

/-- the iterator gives the stretches of a valid tariff's blocks one by one, to any body that keeps what lay below n₀ -/
theorem stretches_stops (n g n₀ : Nat) (st : Int) (ao : Option Addr) (cap : Nat) (bs : List (Int × Int)) (hok : OkB bs) (w : World) (hn₀ : n₀ ≤ w.heap.size) (hg : TfBox w g st ao bs.length cap) (hr : RdK w ao cap bs) (hlt : offB ao bs (fun b => b < n₀)) :
    SeqStopsK Fence.wide n Try.prog 75 #[.pointer (some ⟨g, 0, none⟩)] (fun i : Nat => #[stv bs i]) (Below n₀) (fun ys => ys = List.range bs.length) (fun pre => ∃ k, k < bs.length ∧ pre = List.range (k + 1)) bs.length w := fun l J Jx W hW hJ _ hY h0 => by
  have hpos := hok.pos
  obtain ⟨b, o, rfl, hc⟩ := hr.at (i := 0) (by omega)
  have hb := hlt hpos b o rfl
  refine stretches1_v n l g n₀ b o cap st bs hok hb J Jx W (Nat.le_trans hn₀ hW.size) hJ hY (hg.below hW hg.lt) (fun i hi => ?_) h0
  obtain ⟨q0, q1⟩ := hc i hi
  exact ⟨(hW.cell (p := ⟨b, o + i * 2, none⟩) (show b < w.heap.size by omega)).trans q0, (hW.cell (p := ⟨b, o + i * 2 + 1, none⟩) (show b < w.heap.size by omega)).trans q1⟩
end Go.Proofs.Ytdcnkebcpaelpaa.T14
/- Layer 14: tariff.Validate: the first error of any tariff. -/
namespace Go.Proofs.Ytdcnkebcpaelpaa.T14
open Go.RowKit C6

def goodp (bs : List (Int × Int)) (i : Nat) : Prop := 0 ≤ prc bs i ∧ prc bs i ≤ 1099511627776
def goodl (bs : List (Int × Int)) (i : Nat) : Prop := prev bs i < up bs i ∧ up bs i ≤ 1099511627776
def Says (p : Prop) (w : World) (e : Ending) (w' : World) : Prop := ∃ b : Bool, e = .returned (.bool b) ∧ (b = true ↔ p) ∧ Below w.heap.size w w'
theorem Says.no {p : Prop} {w w' : World} (h : ¬ p) (hb : Below w.heap.size w w') : Says p w (.returned (.bool false)) w' := ⟨false, rfl, ⟨fun e => (by cases e), fun e => absurd e h⟩, hb⟩
theorem Says.yes {p : Prop} {w w' : World} (h : p) (hb : Below w.heap.size w w') : Says p w (.returned (.bool true)) w' := ⟨true, rfl, ⟨fun _ => h, fun _ => rfl⟩, hb⟩

set_option maxHeartbeats 4000000 in
set_option maxRecDepth 100000 in
theorem havePrices_v (ao : Option Addr) (cap : Nat) (bs : List (Int × Int)) (w : World) (h : RdK w ao cap bs) (hl : bs.length ≤ 100) :
    Calls Try.prog 61 #[.slice ao bs.length cap] w (Says (∀ i, i < bs.length → goodp bs i) w) := by
  obtain ⟨n, hn⟩ : ∃ n, n = bs.length := ⟨_, rfl⟩
  have a1 := h.1
  rw [← hn] at a1 hl ⊢
  have HN := Lib.hid hn
  have HR := Lib.hid h
  clear h hn
  go_enter Try.func61, Try.ntmps61
  go_wp2_with fail
  go_loopw [7] (fun s7 wr => ∃ i : Nat, i ≤ n ∧ s7 = .int .i64 (i : Int) ∧ Hid (∀ j, j < i → goodp bs j) ∧ Hid (Below w.heap.size w wr)) (fun s7 _ => n - (intOf s7).toNat)
  case atStart => exact ⟨0, by omega, rfl, (show ∀ j, j < 0 → _ from fun j hj => by omega), Below.refl _ _⟩
  case round =>
    obtain ⟨i, hin, rfl, hgd, hbl⟩ := hrel
    by_cases hlt : i < n
    · have hlt2 : (i : Int) < (n : Int) := by omega
      obtain ⟨b, o, rfl, hc⟩ := (HR.out.below hbl.out).at (i := i) (by rw [← HN.out]; exact hlt)
      obtain ⟨c0, c1⟩ := hc i (by rw [← HN.out]; exact hlt)
      obtain ⟨u, hu⟩ : ∃ u, u = (bs.getD i (0, 0)).1 := ⟨_, rfl⟩
      obtain ⟨p, hp⟩ : ∃ p, p = (bs.getD i (0, 0)).2 := ⟨_, rfl⟩
      rw [← hu] at c0
      rw [← hp] at c1
      have HP : Hid (prc bs i = p) := hp.symm
      have HB : Hid (Below w.heap.size w (wr.alloc (.cells #[.int .i64 u, .int .i64 p] 51))) := hbl.out.alloc hbl.out.size _
      clear hu hp hc
      by_cases h0 : p < 0
      · have d0 : decide (p < 0) = true := decide_eq_true h0
        clear h0
        go_wp2_with fail
        go_ret
        exact Says.no (fun hh => by have := (hh i (by omega)).1; rw [HP.out] at this; have := of_decide_eq_true d0; omega) HB.out
      · have d0 : decide (p < 0) = false := decide_eq_false h0
        by_cases h1 : 1099511627776 < p
        · have d1 : decide (1099511627776 < p) = true := decide_eq_true h1
          clear h0 h1
          go_wp2_with fail
          go_ret
          exact Says.no (fun hh => by have := (hh i (by omega)).2; rw [HP.out] at this; have := of_decide_eq_true d1; omega) HB.out
        · have d1 : decide (1099511627776 < p) = false := decide_eq_false h1
          have hg : goodp bs i := by unfold goodp; rw [HP.out]; omega
          have HG := Lib.hid hg
          clear h0 h1 hg
          go_wp2_with fail
          go_roundw
          case rel => exact ⟨i + 1, by omega, by simp, (show ∀ j, j < i + 1 → _ from fun j hj => by
            by_cases e : j = i
            · rw [e]; exact HG.out
            · exact hgd.out j (by omega)), HB.out⟩
          case measure => simp [intOf]; omega
    · obtain rfl : i = n := by omega
      go_wp2_with fail
      go_ret
      exact Says.yes hgd.out hbl.out
set_option maxHeartbeats 4000000 in
set_option maxRecDepth 100000 in
theorem areLimits_v (ao : Option Addr) (cap : Nat) (bs : List (Int × Int)) (w : World) (h : RdK w ao cap bs) (hl : bs.length ≤ 100) :
    Calls Try.prog 60 #[.slice ao bs.length cap] w (Says (∀ i, i < bs.length → goodl bs i) w) := by
  obtain ⟨n, hn⟩ : ∃ n, n = bs.length := ⟨_, rfl⟩
  have a1 := h.1
  rw [← hn] at a1 hl ⊢
  have HN := Lib.hid hn
  have HR := Lib.hid h
  clear h hn
  go_enter Try.func60, Try.ntmps60
  go_wp2_with fail
  go_loopw [3, 8] (fun s3 s8 wr => ∃ i : Nat, i ≤ n ∧ s8 = .int .i64 (i : Int) ∧ s3 = .int .i64 (prev bs i) ∧ Hid (∀ j, j < i → goodl bs j) ∧ Hid (Below w.heap.size w wr)) (fun _ s8 _ => n - (intOf s8).toNat)
  case atStart => exact ⟨0, by omega, rfl, rfl, (show ∀ j, j < 0 → _ from fun j hj => by omega), Below.refl _ _⟩
  case round =>
    obtain ⟨i, hin, rfl, rfl, hgd, hbl⟩ := hrel
    by_cases hlt : i < n
    · have hlt2 : (i : Int) < (n : Int) := by omega
      obtain ⟨b, o, rfl, hc⟩ := (HR.out.below hbl.out).at (i := i) (by rw [← HN.out]; exact hlt)
      obtain ⟨c0, c1⟩ := hc i (by rw [← HN.out]; exact hlt)
      obtain ⟨u, hu⟩ : ∃ u, u = (bs.getD i (0, 0)).1 := ⟨_, rfl⟩
      obtain ⟨p, hp⟩ : ∃ p, p = (bs.getD i (0, 0)).2 := ⟨_, rfl⟩
      obtain ⟨q, hq⟩ : ∃ q, q = prev bs i := ⟨_, rfl⟩
      rw [← hu] at c0
      rw [← hp] at c1
      rw [← hq]
      have HU : Hid (up bs i = u) := hu.symm
      have HQ : Hid (prev bs i = q) := hq.symm
      have HB : Hid (Below w.heap.size w (wr.alloc (.cells #[.int .i64 u, .int .i64 p] 51))) := hbl.out.alloc hbl.out.size _
      clear hu hp hc hq
      by_cases h0 : u ≤ q
      · have d0 : decide (u ≤ q) = true := decide_eq_true h0
        clear h0
        go_wp2_with fail
        go_ret
        exact Says.no (fun hh => by have := (hh i (by omega)).1; rw [HU.out, HQ.out] at this; have := of_decide_eq_true d0; omega) HB.out
      · have d0 : decide (u ≤ q) = false := decide_eq_false h0
        by_cases h1 : 1099511627776 < u
        · have d1 : decide (1099511627776 < u) = true := decide_eq_true h1
          clear h0 h1
          go_wp2_with fail
          go_ret
          exact Says.no (fun hh => by have := (hh i (by omega)).2; rw [HU.out] at this; have := of_decide_eq_true d1; omega) HB.out
        · have d1 : decide (1099511627776 < u) = false := decide_eq_false h1
          have hg : goodl bs i := by unfold goodl; rw [HU.out, HQ.out]; omega
          have HG := Lib.hid hg
          clear h0 h1 hg
          go_wp2_with fail
          go_roundw
          case rel => exact ⟨i + 1, by omega, by simp, by rw [← HU.out]; rfl, (show ∀ j, j < i + 1 → _ from fun j hj => by
            by_cases e : j = i
            · rw [e]; exact HG.out
            · exact hgd.out j (by omega)), HB.out⟩
          case measure => simp [intOf]; omega
    · obtain rfl : i = n := by omega
      go_wp2_with fail
      go_ret
      exact Says.yes hgd.out hbl.out
theorem ok_iff {bs : List (Int × Int)} {m : Nat} (hm : bs.length = m + 1) (h8 : m + 1 ≤ 8) (h1 : ∀ i, i < m → goodl (bs.take m) i) (h2 : up bs m = 0) (h3 : ∀ i, i < m + 1 → goodp bs i) : OkB bs := by
  have hu : ∀ i, i < m → up (bs.take m) i = up bs i := fun i hi => by unfold up; simp [List.getD, hi]
  have hp : ∀ i, i < m → prev (bs.take m) i = prev bs i := fun i hi => by
    cases i with
    | zero => rfl
    | succ i => exact hu i (by omega)
  refine ⟨by omega, by omega, fun i hi => h3 i (by omega), fun i hi => ?_, fun i hi => ?_⟩
  · have := h1 i (by omega)
    unfold goodl at this
    rw [hu i (by omega), hp i (by omega)] at this
    exact this
  · obtain rfl : i = m := by omega
    exact h2
theorem ok_lim {bs : List (Int × Int)} {m : Nat} (hm : bs.length = m + 1) (h : OkB bs) : ∀ i, i < m → goodl (bs.take m) i := fun i hi => by
  have hu : ∀ i, i < m → up (bs.take m) i = up bs i := fun i hi => by unfold up; simp [List.getD, hi]
  have hp : ∀ i, i < m → prev (bs.take m) i = prev bs i := fun i hi => by
    cases i with
    | zero => rfl
    | succ i => exact hu i (by omega)
  unfold goodl
  rw [hu i hi, hp i hi]
  exact h.lim i (by omega)

set_option maxHeartbeats 4000000 in
set_option maxRecDepth 100000 in
theorem areBlocks_v (ao : Option Addr) (cap : Nat) (bs : List (Int × Int)) (w : World) (h : RdK w ao cap bs) (hl : bs.length ≤ 100) :
    Calls Try.prog 42 #[.slice ao bs.length cap] w (Says (OkB bs) w) := by
  obtain ⟨n, hn⟩ : ∃ n, n = bs.length := ⟨_, rfl⟩
  have a1 := h.1
  rw [← hn] at a1 hl ⊢
  have HN := Lib.hid hn
  have HR := Lib.hid h
  clear h hn
  by_cases h0 : n = 0
  · subst h0
    have no : Hid (¬ OkB bs) := fun hh => by have := hh.pos; have := HN.out; omega
    go_enter Try.func42, Try.ntmps42
    go_wp2_with fail
    go_ret
    exact Says.no no.out (Below.refl _ _)
  · by_cases h8 : 8 < n
    · have d0 : ((n : Int) == 0) = false := beq_eq_false_iff_ne.2 (by omega)
      have d1 : decide ((8 : Int) < (n : Int)) = true := decide_eq_true (by omega)
      have no : Hid (¬ OkB bs) := fun hh => by have := hh.len; have := HN.out; omega
      clear h0 h8
      go_enter Try.func42, Try.ntmps42
      go_wp2_with fail
      go_ret
      exact Says.no no.out (Below.refl _ _)
    · obtain ⟨m, rfl⟩ : ∃ m, n = m + 1 := ⟨n - 1, by omega⟩
      have hm8 : m + 1 ≤ 8 := by omega
      have d0 : ((m : Int) + 1 == 0) = false := beq_eq_false_iff_ne.2 (by omega)
      have d1 : decide ((8 : Int) < (m : Int) + 1) = false := decide_eq_false (by omega)
      have hmc : (m : Int) ≤ (cap : Int) := by omega
      have HL : Hid (∀ w', Below w.heap.size w w' → Calls Try.prog 60 #[.slice ao m cap] w' (Says (∀ i, i < m → goodl (bs.take m) i) w')) := fun w' hb => by
        have ht : (bs.take m).length = m := by rw [List.length_take, ← HN.out]; omega
        have := areLimits_v ao cap (bs.take m) w' ((HR.out.below hb).take m) (by omega)
        rwa [ht] at this
      have HP : Hid (∀ w', Below w.heap.size w w' → Calls Try.prog 61 #[.slice ao (m + 1) cap] w' (Says (∀ i, i < m + 1 → goodp bs i) w')) := fun w' hb => by
        have := havePrices_v ao cap bs w' (HR.out.below hb) (by rw [← HN.out]; omega)
        rwa [← HN.out] at this
      clear h0 h8
      obtain ⟨b, o, rfl, hc⟩ := HR.out.at (i := m) (by rw [← HN.out]; omega)
      have HC := Lib.hid hc
      clear hc
      go_enter Try.func42, Try.ntmps42
      go_wp2_with fail
      refine (HL.out _ (Below.refl _ _)).mono ?_; rintro e w1 ⟨b1, rfl, hb1, hB1⟩
      have HB1 := Lib.hid hb1
      have HW1 : Hid (Below w.heap.size w w1) := hB1
      obtain ⟨c0, -⟩ := RdK.cells (HR.out.below hB1) m (by rw [← HN.out]; omega)
      clear hb1 hB1
      cases b1 with
      | false =>
        go_wp2_with fail
        go_ret
        exact Says.no (fun hh => by have := HB1.out.2 (ok_lim HN.out.symm hh); cases this) HW1.out
      | true =>
        obtain ⟨u, hu⟩ : ∃ u, u = up bs m := ⟨_, rfl⟩
        rw [← hu] at c0
        have HU := Lib.hid hu
        clear hu
        by_cases hz : u = 0
        · have d2 : (u == 0) = true := beq_iff_eq.2 hz
          have HZ := Lib.hid hz
          clear hz
          go_wp2_with fail
          refine (HP.out _ HW1.out).mono ?_; rintro e w2 ⟨b2, rfl, hb2, hB2⟩
          have HB2 := Lib.hid hb2
          have HW2 : Hid (Below w.heap.size w w2) := HW1.out.trans (hB2.mono HW1.out.size)
          clear hb2 hB2
          cases b2 with
          | false =>
            go_wp2_with fail
            go_ret
            exact Says.no (fun hh => by have := HB2.out.2 (fun i hi => hh.price i (by rw [← HN.out]; exact hi)); cases this) HW2.out
          | true =>
            go_wp2_with fail
            go_ret
            exact Says.yes (ok_iff HN.out.symm hm8 (HB1.out.1 (by simp)) (by rw [← HU.out]; exact HZ.out) (HB2.out.1 (by simp))) HW2.out
        · have d2 : (u == 0) = false := beq_eq_false_iff_ne.2 hz
          have HZ : Hid (¬ u = 0) := hz
          clear hz
          go_wp2_with fail
          go_ret
          exact Says.no (fun hh => HZ.out (by rw [HU.out]; exact hh.last m HN.out)) HW1.out

def ErrIs (er : Int) (w : World) (e : Ending) (w' : World) : Prop := e = .returned (.int .i64 er) ∧ Below w.heap.size w w'
set_option maxHeartbeats 4000000 in
set_option maxRecDepth 100000 in
theorem Validate_v (st : Int) (ao : Option Addr) (cap : Nat) (bs : List (Int × Int)) (w : World) (h : RdK w ao cap bs) (hl : bs.length ≤ 100) :
    Calls Try.prog 23 #[.agg #[.int .i64 st, .slice ao bs.length cap]] w (ErrIs (tE st bs) w) := by
  obtain ⟨n, hn⟩ : ∃ n, n = bs.length := ⟨_, rfl⟩
  rw [← hn] at ⊢
  have HB1 : Hid (Below w.heap.size w (w.alloc (.cells #[.int .i64 st, .slice ao n cap] 24))) := below_new w _
  have HA : Hid (∀ w', Below w.heap.size w w' → Calls Try.prog 42 #[.slice ao n cap] w' (Says (OkB bs) w')) := fun w' hb => by
    have := areBlocks_v ao cap bs w' (h.below hb) hl
    rwa [← hn] at this
  clear h hn hl
  by_cases h0 : st < 0
  · have d0 : decide (st < 0) = true := decide_eq_true h0
    have he : Hid (tE st bs = 140) := tE_st (.inl h0)
    clear h0
    go_enter Try.func23, Try.ntmps23
    go_wp2_with fail
    go_ret
    exact ⟨by rw [he.out]; rfl, HB1.out⟩
  · have d0 : decide (st < 0) = false := decide_eq_false h0
    by_cases h1 : 1099511627776 < st
    · have d1 : decide (1099511627776 < st) = true := decide_eq_true h1
      have he : Hid (tE st bs = 140) := tE_st (.inr h1)
      clear h0 h1
      go_enter Try.func23, Try.ntmps23
      go_wp2_with fail
      go_ret
      exact ⟨by rw [he.out]; rfl, HB1.out⟩
    · have d1 : decide (1099511627776 < st) = false := decide_eq_false h1
      have hE : Hid ((OkB bs → tE st bs = 0) ∧ (¬ OkB bs → tE st bs = 141)) := ⟨fun h => tE_zero (by omega) (by omega) h, fun h => tE_bad (by omega) (by omega) h⟩
      clear h0 h1
      go_enter Try.func23, Try.ntmps23
      go_wp2_with fail
      refine (HA.out _ HB1.out).mono ?_; rintro e w2 ⟨b2, rfl, hb2, hB2⟩
      have HB2 := Lib.hid hb2
      have HW2 : Hid (Below w.heap.size w w2) := HB1.out.trans (hB2.mono HB1.out.size)
      clear hb2 hB2
      cases b2 with
      | false =>
        go_wp2_with fail
        go_ret
        exact ⟨by rw [hE.out.2 (fun hh => by have := HB2.out.2 hh; cases this)]; rfl, HW2.out⟩
      | true =>
        go_wp2_with fail
        go_ret
        exact ⟨by rw [hE.out.1 (HB2.out.1 (by simp))]; rfl, HW2.out⟩
end Go.Proofs.Ytdcnkebcpaelpaa.T14
/- Layer 14: the reference's Validate. -/
namespace Go.Proofs.Ytdcnkebcpaelpaa.T14
open Go.RowKit C6

def goodr (bs : List (Int × Int)) (i : Nat) : Prop := goodp bs i ∧ (i + 1 < bs.length → goodl bs i) ∧ (i + 1 = bs.length → up bs i = 0)
theorem ok_all {bs : List (Int × Int)} (h1 : 1 ≤ bs.length) (h8 : bs.length ≤ 8) (h : ∀ i, i < bs.length → goodr bs i) : OkB bs :=
  ⟨h1, h8, fun i hi => (h i hi).1, fun i hi => (h i (by omega)).2.1 hi, fun i hi => (h i (by omega)).2.2 hi⟩
set_option maxHeartbeats 8000000 in
set_option maxRecDepth 100000 in
theorem rValidate_v (st : Int) (ao : Option Addr) (cap : Nat) (bs : List (Int × Int)) (w : World) (h : RdK w ao cap bs) (hl : bs.length ≤ 100) :
    Calls Try.prog 26 #[.agg #[.int .i64 st, .slice ao bs.length cap]] w (ErrIs (tE st bs) w) := by
  obtain ⟨n, hn⟩ : ∃ n, n = bs.length := ⟨_, rfl⟩
  have a1 := h.1
  rw [← hn] at a1 hl ⊢
  obtain ⟨W1, hW1⟩ : ∃ W1, W1 = w.alloc (.cells #[.int .i64 st, .slice ao n cap] 24) := ⟨_, rfl⟩
  have HB1 : Hid (Below w.heap.size w W1) := by rw [hW1]; exact below_new w _
  have HX : Hid (TfBox W1 w.heap.size st ao n cap) := by rw [hW1]; exact TfBox.new w _ _ _ _
  obtain ⟨g0, g1⟩ := HX.out.cells
  have HN := Lib.hid hn
  have HR : Hid (RdK W1 ao cap bs) := h.below HB1.out
  clear h hn
  by_cases h0 : st < 0
  · have d0 : decide (st < 0) = true := decide_eq_true h0
    have he : Hid (tE st bs = 140) := tE_st (.inl h0)
    clear h0
    go_enter Try.func26, Try.ntmps26
    go_upto_region 1 with fail
    rw [← hW1]
    clear hW1
    go_wp2_with fail
    go_ret
    exact ⟨by rw [he.out]; rfl, HB1.out⟩
  · have d0 : decide (st < 0) = false := decide_eq_false h0
    by_cases h1 : 1099511627776 < st
    · have d1 : decide (1099511627776 < st) = true := decide_eq_true h1
      have he : Hid (tE st bs = 140) := tE_st (.inr h1)
      clear h0 h1
      go_enter Try.func26, Try.ntmps26
      go_upto_region 1 with fail
      rw [← hW1]
      clear hW1
      go_wp2_with fail
      go_ret
      exact ⟨by rw [he.out]; rfl, HB1.out⟩
    · have d1 : decide (1099511627776 < st) = false := decide_eq_false h1
      have hE : Hid ((OkB bs → tE st bs = 0) ∧ (¬ OkB bs → tE st bs = 141)) := ⟨fun h => tE_zero (by omega) (by omega) h, fun h => tE_bad (by omega) (by omega) h⟩
      clear h0 h1
      by_cases h2 : n < 1
      · have d2 : decide ((n : Int) < 1) = true := decide_eq_true (by omega)
        have no : Hid (tE st bs = 141) := hE.out.2 (fun hh => by have := hh.pos; have := HN.out; omega)
        clear h2
        go_enter Try.func26, Try.ntmps26
        go_upto_region 1 with fail
        rw [← hW1]
        clear hW1
        go_wp2_with fail
        go_ret
        exact ⟨by rw [no.out]; rfl, HB1.out⟩
      · have d2 : decide ((n : Int) < 1) = false := decide_eq_false (by omega)
        by_cases h3 : 8 < n
        · have d3 : decide ((8 : Int) < (n : Int)) = true := decide_eq_true (by omega)
          have no : Hid (tE st bs = 141) := hE.out.2 (fun hh => by have := hh.len; have := HN.out; omega)
          clear h2 h3
          go_enter Try.func26, Try.ntmps26
          go_upto_region 1 with fail
          rw [← hW1]
          clear hW1
          go_wp2_with fail
          go_ret
          exact ⟨by rw [no.out]; rfl, HB1.out⟩
        · have d3 : decide ((8 : Int) < (n : Int)) = false := decide_eq_false (by omega)
          have HL : Hid (1 ≤ n ∧ n ≤ 8) := ⟨by omega, by omega⟩
          clear h2 h3
          go_enter Try.func26, Try.ntmps26
          go_upto_region 1 with fail
          rw [← hW1]
          clear hW1
          go_wp2_with fail
          go_loopw [3, 27] (fun s3 s27 wr => ∃ i : Nat, i ≤ n ∧ s27 = .int .i64 (i : Int) ∧ s3 = .int .i64 (prev bs i) ∧ Hid (∀ j, j < i → goodr bs j) ∧ Hid (Below W1.heap.size W1 wr)) (fun _ s27 _ => n - (intOf s27).toNat)
          case atStart => exact ⟨0, by omega, rfl, rfl, (show ∀ j, j < 0 → _ from fun j hj => by omega), Below.refl _ _⟩
          case round =>
            obtain ⟨i, hin, rfl, rfl, hgd, hbl⟩ := hrel
            have HW : Hid (Below w.heap.size w wr) := HB1.out.trans (hbl.out.mono HB1.out.size)
            by_cases hlt : i < n
            · have hlt2 : (i : Int) < (n : Int) := by omega
              obtain ⟨b, o, rfl, hc⟩ := (HR.out.below hbl.out).at (i := i) (by rw [← HN.out]; exact hlt)
              obtain ⟨c0, c1⟩ := hc i (by rw [← HN.out]; exact hlt)
              obtain ⟨u, hu⟩ : ∃ u, u = (bs.getD i (0, 0)).1 := ⟨_, rfl⟩
              obtain ⟨p, hp⟩ : ∃ p, p = (bs.getD i (0, 0)).2 := ⟨_, rfl⟩
              obtain ⟨q, hq⟩ : ∃ q, q = prev bs i := ⟨_, rfl⟩
              rw [← hu] at c0
              rw [← hp] at c1
              rw [← hq]
              have HU : Hid (up bs i = u) := hu.symm
              have HP : Hid (prc bs i = p) := hp.symm
              have HQ : Hid (prev bs i = q) := hq.symm
              have HB : Hid (Below W1.heap.size W1 (wr.alloc (.cells #[.int .i64 u, .int .i64 p] 51))) := hbl.out.alloc hbl.out.size _
              have HF : Hid (¬ OkB bs → ErrIs (tE st bs) w (.returned (.int .i64 141)) (wr.alloc (.cells #[.int .i64 u, .int .i64 p] 51))) := fun no => ⟨by rw [hE.out.2 no], HB1.out.trans (HB.out.mono HB1.out.size)⟩
              have HI : Hid (i < bs.length) := by unfold Hid; rw [← HN.out]; exact hlt
              have k1 := (HX.out.below HB.out HX.out.lt).cells.2
              clear hu hp hc hq
              by_cases h0 : p < 0
              · have d4 : decide (p < 0) = true := decide_eq_true h0
                clear h0
                go_wp2_with fail
                go_ret
                exact HF.out (fun hh => by have := (hh.price i HI.out).1; rw [HP.out] at this; have := of_decide_eq_true d4; omega)
              · have d4 : decide (p < 0) = false := decide_eq_false h0
                by_cases h1 : 1099511627776 < p
                · have d5 : decide (1099511627776 < p) = true := decide_eq_true h1
                  clear h0 h1
                  go_wp2_with fail
                  go_ret
                  exact HF.out (fun hh => by have := (hh.price i HI.out).2; rw [HP.out] at this; have := of_decide_eq_true d5; omega)
                · have d5 : decide (1099511627776 < p) = false := decide_eq_false h1
                  have hg : goodp bs i := by unfold goodp; rw [HP.out]; omega
                  have HG := Lib.hid hg
                  clear h0 h1 hg
                  by_cases hla : i + 1 = n
                  · have d6 : ((i : Int) + 1 == (n : Int)) = true := beq_iff_eq.2 (by omega)
                    have HLA : Hid (i + 1 = bs.length) := by unfold Hid; rw [← HN.out]; exact hla
                    clear hla
                    by_cases hz : u = 0
                    · have d7 : (u != 0) = false := by rw [hz]; rfl
                      have HG2 : Hid (goodr bs i) := ⟨HG.out, fun h => by have := HLA.out; omega, fun _ => by rw [HU.out]; exact hz⟩
                      clear hz
                      go_wp2_with fail
                      go_roundw
                      case rel => exact ⟨i + 1, by omega, by simp, by rw [← HU.out]; rfl, (show ∀ j, j < i + 1 → _ from fun j hj => by
                        by_cases e : j = i
                        · rw [e]; exact HG2.out
                        · exact hgd.out j (by omega)), HB.out⟩
                      case measure => simp [intOf]; omega
                    · have d7 : (u != 0) = true := bne_iff_ne.2 hz
                      have HZ : Hid (¬ u = 0) := hz
                      clear hz
                      go_wp2_with fail
                      go_ret
                      exact HF.out (fun hh => HZ.out (by rw [← HU.out]; exact hh.last i HLA.out))
                  · have d6 : ((i : Int) + 1 == (n : Int)) = false := beq_eq_false_iff_ne.2 (by omega)
                    have HLA : Hid (i + 1 < bs.length) := by unfold Hid; rw [← HN.out]; omega
                    clear hla
                    by_cases h0 : u ≤ q
                    · have d7 : decide (u ≤ q) = true := decide_eq_true h0
                      clear h0
                      go_wp2_with fail
                      go_ret
                      exact HF.out (fun hh => by have := (hh.lim i HLA.out).1; rw [HU.out, HQ.out] at this; have := of_decide_eq_true d7; omega)
                    · have d7 : decide (u ≤ q) = false := decide_eq_false h0
                      by_cases h1 : 1099511627776 < u
                      · have d8 : decide (1099511627776 < u) = true := decide_eq_true h1
                        clear h0 h1
                        go_wp2_with fail
                        go_ret
                        exact HF.out (fun hh => by have := (hh.lim i HLA.out).2; rw [HU.out] at this; have := of_decide_eq_true d8; omega)
                      · have d8 : decide (1099511627776 < u) = false := decide_eq_false h1
                        have HG2 : Hid (goodr bs i) := ⟨HG.out, fun _ => by unfold goodl; rw [HU.out, HQ.out]; omega, fun h => by have := HLA.out; omega⟩
                        clear h0 h1
                        go_wp2_with fail
                        go_roundw
                        case rel => exact ⟨i + 1, by omega, by simp, by rw [← HU.out]; rfl, (show ∀ j, j < i + 1 → _ from fun j hj => by
                          by_cases e : j = i
                          · rw [e]; exact HG2.out
                          · exact hgd.out j (by omega)), HB.out⟩
                        case measure => simp [intOf]; omega
            · obtain rfl : i = n := by omega
              go_wp2_with fail
              go_ret
              exact ⟨by rw [hE.out.1 (ok_all (by have := HL.out; have := HN.out; omega) (by have := HL.out; have := HN.out; omega) (fun j hj => hgd.out j (by rw [HN.out]; exact hj)))]; rfl, HW.out⟩
end Go.Proofs.Ytdcnkebcpaelpaa.T14
