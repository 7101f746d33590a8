import Derived.Test.YtdcnkebcpaelpaaTfG0
import Derived.Deep.RegionLaw
import Derived.Deep.Cut
/- Layer 14: tariffs of the tape: what they are, and the world in which one is made. -/
namespace Go.Proofs.Ytdcnkebcpaelpaa.T14
open Go.RowKit Go.Sort C6

theorem up_snoc_lt {bs : List (Int × Int)} {x : Int × Int} {i : Nat} (hi : i < bs.length) : up (bs ++ [x]) i = up bs i ∧ prc (bs ++ [x]) i = prc bs i := by
  unfold up prc
  have : (bs ++ [x]).getD i (0, 0) = bs.getD i (0, 0) := by simp [List.getD, List.getElem?_append_left hi]
  rw [this]
  exact ⟨rfl, rfl⟩
theorem up_snoc_eq {bs : List (Int × Int)} {x : Int × Int} : up (bs ++ [x]) bs.length = x.1 ∧ prc (bs ++ [x]) bs.length = x.2 := by
  unfold up prc
  have : (bs ++ [x]).getD bs.length (0, 0) = x := by simp [List.getD]
  rw [this]
  exact ⟨rfl, rfl⟩
theorem prev_snoc {bs : List (Int × Int)} {x : Int × Int} : ∀ {i : Nat}, i ≤ bs.length → prev (bs ++ [x]) i = prev bs i
  | 0, _ => rfl
  | i + 1, hi => (up_snoc_lt (by omega)).1
/-- the blocks so far: ascending, with small prices -/
structure GoodB (bs : List (Int × Int)) : Prop where
  price : ∀ i, i < bs.length → 0 ≤ prc bs i ∧ prc bs i ≤ 30
  lim : ∀ i, i < bs.length → prev bs i < up bs i
  top : 0 ≤ prev bs bs.length ∧ prev bs bs.length ≤ 60 * bs.length
theorem GoodB.nil : GoodB [] := ⟨fun i hi => by simp at hi, fun i hi => by simp at hi, by simp [prev]⟩
theorem GoodB.snoc {bs : List (Int × Int)} (h : GoodB bs) {u p : Int} (hu : prev bs bs.length < u) (hu2 : u ≤ prev bs bs.length + 60) (hp : 0 ≤ p ∧ p ≤ 30) : GoodB (bs ++ [(u, p)]) := by
  refine ⟨fun i hi => ?_, fun i hi => ?_, ?_⟩
  · rw [List.length_append, List.length_singleton] at hi
    by_cases e : i < bs.length
    · rw [(up_snoc_lt e).2]; exact h.price i e
    · obtain rfl : i = bs.length := by omega
      rw [up_snoc_eq.2]; exact hp
  · rw [List.length_append, List.length_singleton] at hi
    by_cases e : i < bs.length
    · rw [(up_snoc_lt e).1, prev_snoc (by omega)]; exact h.lim i e
    · obtain rfl : i = bs.length := by omega
      rw [up_snoc_eq.1, prev_snoc (Nat.le_refl _)]; exact hu
  · rw [List.length_append, List.length_singleton]
    have e : prev (bs ++ [(u, p)]) (bs.length + 1) = u := up_snoc_eq.1
    have := h.top
    rw [e]
    omega
theorem GoodB.prev_le {bs : List (Int × Int)} (h : GoodB bs) : ∀ {i : Nat}, i ≤ bs.length → 0 ≤ prev bs i ∧ prev bs i ≤ prev bs bs.length := by
  intro i hi
  constructor
  · induction i with
    | zero => simp [prev]
    | succ i ih =>
      have := ih (by omega)
      have := h.lim i (by omega)
      show 0 ≤ up bs i
      omega
  · have key : ∀ k j, j + k = bs.length → prev bs j ≤ prev bs bs.length := by
      intro k
      induction k with
      | zero => intro j hj; obtain rfl : j = bs.length := by omega
                exact Int.le_refl _
      | succ k ih =>
        intro j hj
        have h1 := ih (j + 1) (by omega)
        have h2 := h.lim j (by omega)
        have h3 : prev bs (j + 1) = up bs j := rfl
        omega
    exact key (bs.length - i) i (by omega)
/-- small numbers, as the tape makes them -/
def SmB (bs : List (Int × Int)) : Prop := bs.length ≤ 4 ∧ (∀ i, up bs i ≤ 240) ∧ (∀ i, prc bs i ≤ 30)
theorem out_zero {bs : List (Int × Int)} {i : Nat} (h : bs.length ≤ i) : up bs i = 0 ∧ prc bs i = 0 := by
  have e : bs.getD i (0, 0) = (0, 0) := by simp [List.getD, List.getElem?_eq_none h]
  unfold up prc; rw [e]; exact ⟨rfl, rfl⟩
theorem GoodB.last {bs : List (Int × Int)} (h : GoodB bs) (hl : bs.length ≤ 3) {p : Int} (hp : 0 ≤ p ∧ p ≤ 30) : OkB (bs ++ [(0, p)]) ∧ SmB (bs ++ [(0, p)]) := by
  have hlen : (bs ++ [((0 : Int), p)]).length = bs.length + 1 := by simp
  have ht := h.top
  have pr : ∀ i, i < bs.length + 1 → 0 ≤ prc (bs ++ [(0, p)]) i ∧ prc (bs ++ [(0, p)]) i ≤ 30 := fun i hi => by
    by_cases e : i < bs.length
    · rw [(up_snoc_lt e).2]; exact h.price i e
    · obtain rfl : i = bs.length := by omega
      rw [up_snoc_eq.2]; exact hp
  have ups : ∀ i, i < bs.length → prev bs i < up bs i ∧ up bs i ≤ 180 := fun i hi => by
    have h1 := h.lim i hi
    have h2 := (h.prev_le (i := i + 1) (by omega)).2
    have h3 : prev bs (i + 1) = up bs i := rfl
    omega
  refine ⟨⟨by omega, by omega, fun i hi => ?_, fun i hi => ?_, fun i hi => ?_⟩, by omega, fun i => ?_, fun i => ?_⟩
  · have := pr i (by omega); omega
  · have := ups i (by omega)
    rw [(up_snoc_lt (by omega)).1, prev_snoc (by omega)]; omega
  · obtain rfl : i = bs.length := by omega
    exact up_snoc_eq.1
  · by_cases e : i < bs.length
    · rw [(up_snoc_lt e).1]; have := ups i e; omega
    · by_cases e2 : i = bs.length
      · subst e2; rw [up_snoc_eq.1]; omega
      · rw [(out_zero (by omega)).1]; omega
  · by_cases e : i < bs.length + 1
    · exact (pr i e).2
    · rw [(out_zero (by omega)).2]; omega

theorem rowne {w : World} {base n size : Nat} {e : TypeId} {v : Value} {xs : List Value} (h : w.ownsRow base e size v n xs) {g : Nat} (hg : g < base) : v.ownBlock = none ∨ v.ownBlock ≠ some g := row_block h hg
theorem rowmono {w : World} {base base' n size : Nat} {e : TypeId} {v : Value} {xs : List Value} (h : w.ownsRow base e size v n xs) (hb : base' ≤ base) : w.ownsRow base' e size v n xs :=
  ⟨h.1, h.2.imp id (fun ⟨g, cap, cur, h1, h2, h3⟩ => ⟨g, cap, cur, h1, Nat.le_trans hb h2, h3⟩)⟩

/-- a tariff in its box, its row, and the tape -/
structure TS (w wr : World) (B : Nat) (ao : Option Addr) (tn tcap g gr j : Nat) (st : Int) (av : Option Addr) (n c : Nat) (bs : List (Int × Int)) : Prop where
  tap : Tap wr B ao tn tcap j
  box : TfBox wr g st av n c
  zer : TfBox wr gr 0 none 0 0
  own : wr.ownsRow (g + 1) 51 2 (.slice av n c) n (bkv bs)
  gb : w.grownBy wr (some B)
theorem TS.len {w wr : World} {B : Nat} {ao : Option Addr} {tn tcap g gr j : Nat} {st : Int} {av : Option Addr} {n c : Nat} {bs : List (Int × Int)} (h : TS w wr B ao tn tcap g gr j st av n c bs) : bs.length = n := by
  have := h.own.1
  rw [bkv_length] at this
  omega
theorem TfBox.grown {w w' : World} {g : Nat} {st : Int} {ao : Option Addr} {n cap : Nat} (h : TfBox w g st ao n cap) {row : Option Nat} (k : w.grownBy w' row) (hne : some g ≠ row) : TfBox w' g st ao n cap := (k.block g h.lt hne).trans h
theorem TfBox.fz {w : World} {g : Nat} {st : Int} {ao : Option Addr} {n cap : Nat} (h : TfBox w g st ao n cap) (j : Nat) : w.frozen? ⟨g, j, none⟩ = false := by
  unfold TfBox at h
  simp [World.frozen?, h]
theorem TS.next {w wr w' : World} {B : Nat} {ao : Option Addr} {tn tcap g gr j j' : Nat} {st : Int} {av : Option Addr} {n c : Nat} {bs : List (Int × Int)} (h : TS w wr B ao tn tcap g gr j st av n c bs) (k : wr.grownBy w' (some B)) (t : Tap w' B ao tn tcap j') (h1 : B < gr) (h2 : gr < g) : TS w w' B ao tn tcap g gr j' st av n c bs :=
  ⟨t, h.box.grown k (fun e => by have := Option.some.inj e; omega), h.zer.grown k (fun e => by have := Option.some.inj e; omega), h.own.kept k (rowne h.own (by omega)), gb_trans h.gb k⟩
theorem TS.below {w wr w' : World} {B : Nat} {ao : Option Addr} {tn tcap g gr j : Nat} {st : Int} {av : Option Addr} {n c : Nat} {bs : List (Int × Int)} (h : TS w wr B ao tn tcap g gr j st av n c bs) (k : Below wr.heap.size wr w') : TS w w' B ao tn tcap g gr j st av n c bs :=
  ⟨h.tap.keep k, h.box.below k h.box.lt, h.zer.below k h.zer.lt, own_below h.own k, gb_trans h.gb (below_gb k _)⟩
theorem TS.drew {w wr : World} {B : Nat} {ao : Option Addr} {tn tcap g gr j : Nat} {st : Int} {av : Option Addr} {n c : Nat} {bs : List (Int × Int)} (h : TS w wr B ao tn tcap g gr j st av n c bs) : TS w wr.drew B ao tn tcap g gr j st av n c bs :=
  ⟨h.tap, h.box, h.zer, h.own, ⟨h.gb.os, h.gb.tape, h.gb.output, h.gb.size, h.gb.block⟩⟩
theorem gbjoin {a b c : World} {B : Nat} {row : Option Nat} (h : a.grownBy b (some B)) (k : b.grownBy c row) (hr : ∀ r, row = some r → a.heap.size ≤ r) : a.grownBy c (some B) :=
  ⟨k.os.trans h.os, k.tape.trans h.tape, k.output.trans h.output, Nat.le_trans h.size k.size, fun q hq hn => (k.block q (Nat.lt_of_lt_of_le hq h.size) (fun e => by have := hr q e.symm; omega)).trans (h.block q hq hn)⟩
/-- another row and its box's store -/
theorem TS.put {w wr w1 : World} {B : Nat} {ao : Option Addr} {tn tcap g gr j : Nat} {st : Int} {av av' : Option Addr} {n n' c c' : Nat} {bs bs' : List (Int × Int)} (h : TS w wr B ao tn tcap g gr j st av n c bs) (h1 : B < w.heap.size) (h2 : w.heap.size ≤ gr) (h3 : gr < g)
    (k : wr.grownBy w1 (Value.slice av n c).ownBlock) (ho : w1.ownsRow (g + 1) 51 2 (.slice av' n' c') n' (bkv bs')) : TS w (w1.setCell ⟨g, 1, none⟩ (.slice av' n' c')) B ao tn tcap g gr j st av' n' c' bs' := by
  have hb : ∀ r, (Value.slice av n c).ownBlock = some r → g + 1 ≤ r := fun r e => (h.own.lt r e).1
  have hbx : TfBox w1 g st av n c := h.box.grown k (fun e => by have := hb g e.symm; omega)
  have hg := gb_set w1 g 1 (.slice av' n' c')
  refine ⟨?_, ?_, ?_, ho.kept hg (rowne ho (by omega)), ?_⟩
  · exact (h.tap.grown k (fun e => by have := hb B e.symm; omega)).grown hg (fun e => by have := Option.some.inj e; omega)
  · unfold TfBox at hbx ⊢
    simp [World.setCell, Array.getElem?_modify, hbx]
  · exact (h.zer.grown k (fun e => by have := hb gr e.symm; omega)).grown hg (fun e => by have := Option.some.inj e; omega)
  · exact gbjoin (gbjoin h.gb k (fun r e => by have := hb r e; omega)) hg (fun r e => by have := Option.some.inj e; omega)
end Go.Proofs.Ytdcnkebcpaelpaa.T14
/- Layer 14: make's Tariff: a valid tariff of the tape. -/
namespace Go.Proofs.Ytdcnkebcpaelpaa.T14
open Go.RowKit Go.Sort C6

theorem step_append_k {P : Program} {ops : Array Oper} {o : Oper} {a : Act} {w : World} {K : Act → World → Prop} {Q : Exit → Act → World → Prop} {E : Prop} (hg : o.guard = none) (s x : Operand) (t : TypeId)
    (ho : o.op = .call { callee := .builtin .append, args := #[s, x], argTypes := #[t, t] })
    (base : Nat) (e : TypeId) (i : TypeInfo) (z : Value) (size bytes : Nat) (ht : P.underlying t = some (.slice e)) (hi : P.info? e = some i) (hz : i.zero = some z)
    (hsize : i.size = size) (hby : i.bytes = bytes) (hzs : z.cells.size = size) (hsz : 0 < size)
    (v : Value) (n : Nat) (xs : List Value) (hs : a.eval s = v) (hown : w.ownsRow base e size v n xs)
    (ad : Addr) (m c : Nat) (news : List Value) (hx : a.eval x = .slice (some ad) m c) (hl : news.length = m * size) (hnews : ∀ j u, news[j]? = some u → w.cell? (ad.add j) = some u) (h1 : ∀ u ∈ news, u.oneCell' = true)
    (h63 : n + m ≤ maxLen) (hbytes : (n + m) * bytes ≤ 140737488355328) (hbase : base ≤ w.heap.size)
    (h : ∀ v' w', w'.ownsRow base e size v' (n + m) (xs ++ news) → w.grownBy w' v.ownBlock → (v' = .slice none 0 0 ↔ v = .slice none 0 0 ∧ m = 0) → K (a.put o.dst v') w') :
    if Region.wanted o (yielded ops a.tmps) = true then Oper.wp P o a w K Q else E := by
  rw [if_pos (by simp [Region.wanted, hg])]
  exact wp_append_own w s x t ho base e i z size bytes ht hi hz hsize hby hzs hsz v n xs hs hown ad m c news hx hl hnews h1 h63 hbytes hbase h
theorem two_cell (w : World) (u v : Value) (t : TypeId) : ∀ j x, [u, v][j]? = some x → (w.alloc (.cells #[u, v] t)).cell? ((⟨w.heap.size, 0, none⟩ : Addr).add j) = some x := by
  intro j x hj
  rw [Addr.add_lit]
  match j with
  | 0 => cases hj; exact World.cell?_alloc_mark w _ _ (0, 0) 0
  | 1 => cases hj; exact World.cell?_alloc_mark w _ _ (0, 0) 1
  | j + 2 => cases hj
theorem bkv_take (l : List (Int × Int)) (k : Nat) : (bkv l).take (k * 2) = bkv (l.take k) := by
  induction l generalizing k with
  | nil => simp [bkv_nil]
  | cons x l ih =>
    cases k with
    | zero => simp [bkv_nil]
    | succ k =>
      rw [show (k + 1) * 2 = k * 2 + 1 + 1 by omega, bkv_cons, List.take_succ_cons, List.take_succ_cons, ih, List.take_succ_cons, bkv_cons]
/-- what the tape's tariff is -/
def TfPost (w : World) (B : Nat) (ao : Option Addr) (tn tcap j : Nat) (e : Ending) (w' : World) : Prop :=
  ∃ (st : Int) (b c : Nat) (bs : List (Int × Int)) (j' : Nat), e = .returned (.agg #[.int .i64 st, .slice (some ⟨b, 0, none⟩) bs.length c]) ∧ w'.ownsRow w.heap.size 51 2 (.slice (some ⟨b, 0, none⟩) bs.length c) bs.length (bkv bs) ∧
    0 ≤ st ∧ st ≤ 499 ∧ OkB bs ∧ SmB bs ∧ w.grownBy w' (some B) ∧ j' ≤ j + 11 ∧ Tap w' B ao tn tcap j'

set_option maxHeartbeats 16000000 in
set_option maxRecDepth 100000 in
theorem Tariff_v (B : Nat) (ao : Option Addr) (tcap : Nat) (ts : List Int) (j : Nat) (w : World) (hb : Tap w B ao ts.length tcap j) (ht : RdZ w ao tcap ts) (hlt : 0 < ts.length → ∀ b o, ao = some ⟨b, o, none⟩ → b < w.heap.size ∧ b ≠ B) (hj : j ≤ 2000) :
    Calls Try.prog 16 #[.pointer (some ⟨B, 0, none⟩)] w (TfPost w B ao ts.length tcap j) := by
  obtain ⟨i0, hi, hz0, hz1, hz2⟩ := info_parts infoBlk
  obtain ⟨tn, htn⟩ : ∃ tn, tn = ts.length := ⟨_, rfl⟩
  have hBw := hb.lt
  obtain ⟨W1, hW1⟩ : ∃ W, W = w.alloc (.cells #[.int .i64 0, .slice none 0 0] 24) := ⟨_, rfl⟩
  have b1 : Below w.heap.size w W1 := by rw [hW1]; exact below_new w _
  have s1 : W1.heap.size = w.heap.size + 1 := by rw [hW1]; simp
  have z1 : TfBox W1 w.heap.size 0 none 0 0 := by rw [hW1]; exact TfBox.new w _ _ _ _
  obtain ⟨gr, hgr⟩ : ∃ g, g = w.heap.size := ⟨_, rfl⟩
  obtain ⟨g, hg⟩ : ∃ g, g = gr + 1 := ⟨_, rfl⟩
  have t1 : Tap W1 B ao ts.length tcap j := hb.keep b1
  -- the tape's list stands in whatever world
  have NX : Hid (∀ (w1 : World) (i m : Nat), Tap w1 B ao tn tcap i → w.grownBy w1 (some B) → i ≤ 3000 → 1 ≤ m → m ≤ 1000000 → ∀ n : Int, n = m → Calls Try.prog 8 #[.pointer (some ⟨B, 0, none⟩), .int .i64 n] w1 (NextPost w1 B ao tn tcap i m)) := by
    intro w1 i m h1 h2 h3 h4 h5 n h6
    rw [htn] at h1 ⊢
    refine Next_v B ao tcap ts i m w1 h1 ?_ h3 h4 h5 n h6
    refine ⟨ht.1, ht.2.1, ?_⟩
    rcases ht.2.2 with hn | ⟨b, o, e, hc⟩
    · exact .inl hn
    · refine .inr ⟨b, o, e, fun i v hi => ?_⟩
      have hl : 0 < ts.length := by
        have := (List.getElem?_eq_some_iff.1 hi).1
        rw [intz_length] at this
        omega
      exact h2.cell (hc i v hi) (fun q => (hlt hl b o e).2 (Option.some.inj q))
  rw [← htn] at t1 ⊢
  rw [← hgr] at z1 s1
  have T1 := Lib.hid t1
  have Z1 := Lib.hid z1
  have S1 := Lib.hid s1
  have B1 := Lib.hid b1
  have HG : Hid (gr = w.heap.size ∧ g = gr + 1 ∧ B < w.heap.size ∧ B < gr ∧ gr < g ∧ w.heap.size ≤ gr) := ⟨hgr, hg, hBw, by omega, by omega, by omega⟩
  have G1 : Hid (w.grownBy W1 (some B)) := below_gb b1 _
  clear htn hb ht hlt hBw b1 s1 z1 t1 hg
  have HGR := Lib.hid hgr
  clear hgr
  go_enter Try.func16, Try.ntmps16
  go_wp2_with fail
  rw [← hW1]
  clear hW1
  refine (NX.out _ j 500 T1.out G1.out (by omega) (by omega) (by omega) _ rfl).mono ?_
  rintro e w2 ⟨r0, rfl, hr0, g2, hs2, t2⟩
  have z2 : TfBox w2 gr 0 none 0 0 := Z1.out.grown g2 (fun e => by have := Option.some.inj e; have := HG.out; omega)
  obtain ⟨W3, hW3⟩ : ∃ W, W = w2.alloc (.cells #[.int .i64 (r0 : Int), .slice none 0 0] 24) := ⟨_, rfl⟩
  have b3 : Below w2.heap.size w2 W3 := by rw [hW3]; exact below_new w2 _
  have hs2' : w2.heap.size = g := by rw [hs2, S1.out]; exact HG.out.2.1.symm
  have x3 : TfBox W3 g (r0 : Int) none 0 0 := by rw [hW3, ← hs2']; exact TfBox.new w2 _ _ _ _
  have TS0 : Hid (TS w W3 B ao tn tcap g gr (j + 1) (r0 : Int) none 0 0 []) := ⟨t2.keep b3, x3, z2.below b3 z2.lt, World.ownsRow_nil _ _ _ _, gb_trans (gb_trans G1.out g2) (below_gb b3 _)⟩
  have HSZ : Hid (g + 1 ≤ W3.heap.size) := by unfold Hid; rw [hW3]; simp; omega
  have HR0 := Lib.hid hr0
  have HS2 := Lib.hid hs2'
  clear g2 hs2 t2 z2 b3 hs2' x3 hr0 T1 Z1 S1 B1 G1
  go_upto_region 2 with fail
  rw [← hW3]
  try rw [HS2.out]
  clear hW3 HS2
  rw [← HGR.out]
  go_wp2_with fail
  refine (NX.out _ (j + 1) 4 TS0.out.tap TS0.out.gb (by omega) (by omega) (by omega) _ rfl).mono ?_
  rintro e w4 ⟨k, rfl, hk4, g4, hs4, t4⟩
  have TS1 : Hid (TS w w4 B ao tn tcap g gr (j + 2) (r0 : Int) none 0 0 []) := TS0.out.next g4 t4 HG.out.2.2.2.1 HG.out.2.2.2.2.1
  have HS4 : Hid (g + 1 ≤ w4.heap.size) := by unfold Hid; rw [hs4]; exact HSZ.out
  have HK4 := Lib.hid hk4
  clear g4 hs4 t4 hk4 TS0 HSZ
  go_wp2_with fail
  go_loopw [4, 10] (fun s4 s10 wr => ∃ (i : Nat) (up' : Nat) (av : Option Addr) (c : Nat) (bs : List (Int × Int)), i ≤ k ∧ s10 = .int .i64 (i : Int) ∧ s4 = .int .i64 (up' : Int) ∧ up' ≤ 60 * i ∧ Hid (TS w wr B ao tn tcap g gr (j + 2 + 2 * i) (r0 : Int) av i c bs) ∧ Hid (GoodB bs ∧ prev bs bs.length = (up' : Int)) ∧ Hid (g + 1 ≤ wr.heap.size)) (fun _ s10 _ => k - (intOf s10).toNat)
  case atStart => exact ⟨0, 0, none, 0, [], by omega, rfl, rfl, by omega, TS1.out, ⟨GoodB.nil, rfl⟩, HS4.out⟩
  case round =>
    obtain ⟨i, u, av, c, bs, hik, rfl, rfl, hu, hS, hGB, hsz⟩ := hrel
    have hk4' : k < 4 := HK4.out
    by_cases hlt : i < k
    · have hlt2 : (i : Int) < (k : Int) := by omega
      go_wp2_with fail
      refine (NX.out _ (j + 2 + 2 * i) 60 hS.out.tap hS.out.gb (by omega) (by omega) (by omega) _ rfl).mono ?_
      rintro e w5 ⟨r5, rfl, hr5, g5, hs5, t5⟩
      have S5 : Hid (TS w w5 B ao tn tcap g gr (j + 2 + 2 * i + 1) (r0 : Int) av i c bs) := hS.out.next g5 t5 HG.out.2.2.2.1 HG.out.2.2.2.2.1
      have HS5 : Hid (g + 1 ≤ w5.heap.size) := by unfold Hid; rw [hs5]; exact hsz.out
      clear g5 hs5 t5 hS hsz
      obtain ⟨x, hx⟩ : ∃ x : Nat, (u : Int) + (1 + (r5 : Int)) = (x : Int) := ⟨u + (1 + r5), by omega⟩
      have hxb : u < x ∧ x ≤ u + 60 := by omega
      have HX : Hid (u < x ∧ x ≤ u + 60) := hxb
      have hcap : i ≤ c := by
        rcases S5.out.own.2 with ⟨e, h0⟩ | ⟨_, cap', _, e, _, _, hn, _⟩
        · omega
        · cases e; exact hn
      have hx240 : x ≤ 300 := by omega
      have q5 := S5.out.box.cells.2
      go_wp2_with fail
      go_region_law (first
        | (go_simp; (go_at_call 8; refine (NX.out _ (j + 2 + 2 * i + 1) 4 S5.out.drew.tap S5.out.drew.gb (by omega) (by omega) (by omega) _ rfl).mono ?_; rintro e w6 ⟨r6, rfl, hr6, g6, hs6, t6⟩; have S6 : Hid (TS w w6 B ao tn tcap g gr (j + 2 + 2 * i + 1 + 1) (r0 : Int) av i c bs) := S5.out.drew.next g6 t6 HG.out.2.2.2.1 HG.out.2.2.2.2.1; have q6 := S6.out.box.cells.2; obtain ⟨p6, hp6⟩ : ∃ p : Nat, (r6 : Int) * 10 = (p : Int) := ⟨r6 * 10, by omega⟩; have hp6b : p6 ≤ 30 := (by omega); have hwp := wrap_mid (c := (p6 : Int)) (by omega) (by omega); have S7 : Hid (TS w (w6.alloc (.cells #[.int .i64 (x : Int), .int .i64 (p6 : Int)] 51)) B ao tn tcap g gr (j + 2 + 2 * i + 1 + 1) (r0 : Int) av i c bs) := S6.out.below (below_new w6 _); have q7 := S7.out.box.cells.2; have O6 := Lib.hid S7.out.own; have HSA : Hid (g + 1 ≤ (w6.alloc (.cells #[.int .i64 (x : Int), .int .i64 (p6 : Int)] 51)).heap.size) := (by unfold Hid; have h1 := HS5.out; have h2 : w6.heap.size = w5.heap.size := hs6; rw [World.size_alloc]; omega); have HNB : Hid (some g ≠ (Value.slice av i c).ownBlock) := (fun e => by have := (S6.out.own.lt g e.symm).1; omega); clear g6 hs6 t6))
        | (refine step_append_k rfl (.tmp 18) (.tmp 24) 22 rfl (g + 1) 51 i0 (.agg #[.int .i64 0, .int .i64 0]) 2 16 Try.underlying22 hi hz0 hz1 hz2 rfl (by decide) (.slice av i c) i (bkv bs) (by simp [Act.eval]) O6.out ⟨w6.heap.size, 0, none⟩ 1 1 [.int .i64 (x : Int), .int .i64 (p6 : Int)] (by simp [Act.eval]) rfl (two_cell w6 _ _ _) (bkv_one' [((x : Int), (p6 : Int))]) (by unfold maxLen; omega) (by omega) HSA.out ?_; intro v7 w7 hown7 hgr7 _; obtain ⟨a7, c7, rfl⟩ := of_row_k hown7; have f7 := (S7.out.box.grown hgr7 (HNB.out)); have q8 := f7.cells.2; have qf8 := f7.fz 1))
      all_goals
        have S8 : Hid (TS w (w7.setCell ⟨g, 1, none⟩ (.slice a7 (i + 1) c7)) B ao tn tcap g gr (j + 2 + 2 * i + 1 + 1) (r0 : Int) a7 (i + 1) c7 (bs ++ [((x : Int), (p6 : Int))])) := S7.out.put HG.out.2.2.1 HG.out.2.2.2.2.2 HG.out.2.2.2.2.1 hgr7 (by rw [bkv_append]; exact hown7)
        have G8 : Hid (GoodB (bs ++ [((x : Int), (p6 : Int))]) ∧ prev (bs ++ [((x : Int), (p6 : Int))]) (bs ++ [((x : Int), (p6 : Int))]).length = (x : Int)) := by
          obtain ⟨h1, h2⟩ := hGB.out
          have h3 := HX.out
          refine ⟨h1.snoc (by omega) (by omega) ⟨by omega, by omega⟩, ?_⟩
          rw [List.length_append, List.length_singleton]
          exact up_snoc_eq.1
        have Z8 : Hid (g + 1 ≤ (w7.setCell ⟨g, 1, none⟩ (.slice a7 (i + 1) c7)).heap.size) := by have := HSA.out; have := hgr7.size; unfold Hid; simp; omega
        clear S7 hown7 hgr7 f7 q8 qf8 q5 q6 q7 O6 HSA HNB hGB S5 S6
        go_wp2_with fail
        go_roundw
        case rel => exact ⟨i + 1, x, a7, c7, _, by omega, by simp, rfl, by have := HX.out; omega, by
          have e : j + 2 + 2 * (i + 1) = j + 2 + 2 * i + 1 + 1 := by omega
          rw [e]; exact S8.out, G8.out, Z8.out⟩
        case measure => first | (simp [intOf]; done) | (simp [intOf]; omega)
    · obtain rfl : i = k := by omega
      have hcap : i ≤ c := by
        rcases hS.out.own.2 with ⟨e, h0⟩ | ⟨_, cap', _, e, _, _, hn, _⟩
        · omega
        · cases e; exact hn
      have q5 := hS.out.box.cells.2
      go_wp2_with fail
      go_region_law (first
        | (go_simp; (go_at_call 8; refine (NX.out _ (j + 2 + 2 * i) 4 hS.out.drew.tap hS.out.drew.gb (by omega) (by omega) (by omega) _ rfl).mono ?_; rintro e w6 ⟨r6, rfl, hr6, g6, hs6, t6⟩; have S6 : Hid (TS w w6 B ao tn tcap g gr (j + 2 + 2 * i + 1) (r0 : Int) av i c bs) := hS.out.drew.next g6 t6 HG.out.2.2.2.1 HG.out.2.2.2.2.1; have q6 := S6.out.box.cells.2; obtain ⟨p6, hp6⟩ : ∃ p : Nat, (r6 : Int) * 10 = (p : Int) := ⟨r6 * 10, by omega⟩; have hp6b : p6 ≤ 30 := (by omega); have hwp := wrap_mid (c := (p6 : Int)) (by omega) (by omega); have S7 : Hid (TS w (w6.alloc (.cells #[.int .i64 0, .int .i64 (p6 : Int)] 51)) B ao tn tcap g gr (j + 2 + 2 * i + 1) (r0 : Int) av i c bs) := S6.out.below (below_new w6 _); have q7 := S7.out.box.cells.2; have O6 := Lib.hid S7.out.own; have HSA : Hid (g + 1 ≤ (w6.alloc (.cells #[.int .i64 0, .int .i64 (p6 : Int)] 51)).heap.size) := (by unfold Hid; have h1 := hsz.out; have h2 : w6.heap.size = wr.heap.size := hs6; rw [World.size_alloc]; omega); have HNB : Hid (some g ≠ (Value.slice av i c).ownBlock) := (fun e => by have := (S6.out.own.lt g e.symm).1; omega); clear g6 hs6 t6))
        | (refine step_append_k rfl (.tmp 29) (.tmp 34) 22 rfl (g + 1) 51 i0 (.agg #[.int .i64 0, .int .i64 0]) 2 16 Try.underlying22 hi hz0 hz1 hz2 rfl (by decide) (.slice av i c) i (bkv bs) (by simp [Act.eval]) O6.out ⟨w6.heap.size, 0, none⟩ 1 1 [.int .i64 0, .int .i64 (p6 : Int)] (by simp [Act.eval]) rfl (two_cell w6 _ _ _) (bkv_one' [((0 : Int), (p6 : Int))]) (by unfold maxLen; omega) (by omega) HSA.out ?_; intro v7 w7 hown7 hgr7 _; obtain ⟨a7, c7, rfl⟩ := of_row_k hown7; have f7 := (S7.out.box.grown hgr7 (HNB.out)); have q8 := f7.cells.2; have qf8 := f7.fz 1))
      all_goals
        have S8 : Hid (TS w (w7.setCell ⟨g, 1, none⟩ (.slice a7 (i + 1) c7)) B ao tn tcap g gr (j + 2 + 2 * i + 1) (r0 : Int) a7 (i + 1) c7 (bs ++ [((0 : Int), (p6 : Int))])) := S7.out.put HG.out.2.2.1 HG.out.2.2.2.2.2 HG.out.2.2.2.2.1 hgr7 (by rw [bkv_append]; exact hown7)
        have G8 : Hid (OkB (bs ++ [((0 : Int), (p6 : Int))]) ∧ SmB (bs ++ [((0 : Int), (p6 : Int))])) := hGB.out.1.last (by rw [hS.out.len]; omega) ⟨by omega, by omega⟩
        obtain ⟨b8, e8⟩ : ∃ b, a7 = some ⟨b, 0, none⟩ := by
          obtain ⟨g8, cap8, e⟩ := ownsRow_succ hown7
          cases e; exact ⟨g8, rfl⟩
        subst e8
        have hlen : (bs ++ [((0 : Int), (p6 : Int))]).length = i + 1 := by rw [List.length_append, hS.out.len]; rfl
        clear S7 hown7 hgr7 f7 q8 qf8 q5 q6 q7 O6 HSA HNB hGB hS S6
        obtain ⟨W8, hW8⟩ : ∃ W8, W8 = w7.setCell ⟨g, 1, none⟩ (.slice (some ⟨b8, 0, none⟩) (i + 1) c7) := ⟨_, rfl⟩
        rw [← hW8] at S8
        rw [← hW8]
        clear hW8
        obtain ⟨p0, p1⟩ := S8.out.box.cells
        obtain ⟨y0, y1⟩ := S8.out.zer.cells
        have f0 := S8.out.zer.fz 0
        have f1 := S8.out.zer.fz 1
        have R8 : Hid (((W8.setCell ⟨gr, 0, none⟩ (.int .i64 (r0 : Int))).setCell ⟨gr, 1, none⟩ (.slice (some ⟨b8, 0, none⟩) (i + 1) c7)).heap[gr]? = some (.cells #[.int .i64 (r0 : Int), .slice (some ⟨b8, 0, none⟩) (i + 1) c7] 24 (0, 0))) := by
          have := S8.out.zer
          unfold TfBox at this
          simp [Hid, World.setCell, Array.getElem?_modify, this]
        have FIN : Hid (TfPost w B ao tn tcap j (.returned (.agg #[.int .i64 (r0 : Int), .slice (some ⟨b8, 0, none⟩) (i + 1) c7])) ((W8.setCell ⟨gr, 0, none⟩ (.int .i64 (r0 : Int))).setCell ⟨gr, 1, none⟩ (.slice (some ⟨b8, 0, none⟩) (i + 1) c7))) := by
          have hs : W8.grownBy ((W8.setCell ⟨gr, 0, none⟩ (.int .i64 (r0 : Int))).setCell ⟨gr, 1, none⟩ (.slice (some ⟨b8, 0, none⟩) (i + 1) c7)) (some gr) := gb_trans (gb_set W8 gr 0 _) (gb_set _ gr 1 _)
          have hgrg := HG.out
          refine ⟨_, b8, c7, _, j + 2 + 2 * i + 1, by rw [hlen], by rw [hlen]; exact rowmono (S8.out.own.kept hs (rowne S8.out.own (by omega))) (by omega), by omega, by have := HR0.out; omega, G8.out.1, G8.out.2, gbjoin S8.out.gb hs (fun r e => by have := Option.some.inj e; omega), by omega, S8.out.tap.grown hs (fun e => by have := Option.some.inj e; omega)⟩
        clear S8 G8 hlen
        go_wp2_with fail
        have v0 : ((W8.setCell ⟨gr, 0, none⟩ (.int .i64 (r0 : Int))).setCell ⟨gr, 1, none⟩ (.slice (some ⟨b8, 0, none⟩) (i + 1) c7)).cell? ⟨gr, 0, none⟩ = some (.int .i64 (r0 : Int)) := by simp [World.cell?, R8.out]
        have v1 : ((W8.setCell ⟨gr, 0, none⟩ (.int .i64 (r0 : Int))).setCell ⟨gr, 1, none⟩ (.slice (some ⟨b8, 0, none⟩) (i + 1) c7)).cell? ⟨gr, 1, none⟩ = some (.slice (some ⟨b8, 0, none⟩) (i + 1) c7) := by simp [World.cell?, R8.out]
        refine bodyPost_ret (v := .agg #[.int .i64 (r0 : Int), .slice (some ⟨b8, 0, none⟩) (i + 1) c7]) (by simp [results, Try.results16, go_sem, v0, v1]) rfl ?_
        exact FIN.out
end Go.Proofs.Ytdcnkebcpaelpaa.T14
/- Layer 14: the law's spoiled: a tariff of the tape with at most one fault; and amount. -/
namespace Go.Proofs.Ytdcnkebcpaelpaa.T14
open Go.RowKit Go.Sort C6

/-- a tariff in its box, its row (which lies ahead of the box, or behind), and the tape -/
structure TD (w wr : World) (B : Nat) (ao : Option Addr) (tn tcap g gr j : Nat) (st : Int) (av : Option Addr) (n c : Nat) (bs : List (Int × Int)) : Prop where
  tap : Tap wr B ao tn tcap j
  box : TfBox wr g st av n c
  zer : TfBox wr gr 0 none 0 0
  own : wr.ownsRow (gr + 1) 51 2 (.slice av n c) n (bkv bs)
  gb : w.grownBy wr (some B)
theorem TD.len {w wr : World} {B : Nat} {ao : Option Addr} {tn tcap g gr j : Nat} {st : Int} {av : Option Addr} {n c : Nat} {bs : List (Int × Int)} (h : TD w wr B ao tn tcap g gr j st av n c bs) : bs.length = n := by
  have := h.own.1
  rw [bkv_length] at this
  omega
/-- the row is not the box -/
theorem TD.ne {w wr : World} {B : Nat} {ao : Option Addr} {tn tcap g gr j : Nat} {st : Int} {av : Option Addr} {n c : Nat} {bs : List (Int × Int)} (h : TD w wr B ao tn tcap g gr j st av n c bs) : (Value.slice av n c).ownBlock = none ∨ (Value.slice av n c).ownBlock ≠ some g := by
  rcases h.own.2 with ⟨e, _⟩ | ⟨b, cap, cur, e, _, hb, _⟩
  · rw [e]; exact .inl rfl
  · rw [e]
    refine .inr (fun e2 => ?_)
    obtain rfl : b = g := Option.some.inj e2
    have := h.box
    unfold TfBox at this
    rw [hb] at this; cases this
theorem TD.next {w wr w' : World} {B : Nat} {ao : Option Addr} {tn tcap g gr j j' : Nat} {st : Int} {av : Option Addr} {n c : Nat} {bs : List (Int × Int)} (h : TD w wr B ao tn tcap g gr j st av n c bs) (k : wr.grownBy w' (some B)) (t : Tap w' B ao tn tcap j') (h1 : B < gr) (h2 : gr < g) : TD w w' B ao tn tcap g gr j' st av n c bs :=
  ⟨t, h.box.grown k (fun e => by have := Option.some.inj e; omega), h.zer.grown k (fun e => by have := Option.some.inj e; omega), h.own.kept k (rowne h.own (by omega)), gb_trans h.gb k⟩
theorem TD.below {w wr w' : World} {B : Nat} {ao : Option Addr} {tn tcap g gr j : Nat} {st : Int} {av : Option Addr} {n c : Nat} {bs : List (Int × Int)} (h : TD w wr B ao tn tcap g gr j st av n c bs) (k : Below wr.heap.size wr w') : TD w w' B ao tn tcap g gr j st av n c bs :=
  ⟨h.tap.keep k, h.box.below k h.box.lt, h.zer.below k h.zer.lt, own_below h.own k, gb_trans h.gb (below_gb k _)⟩
theorem TD.drew {w wr : World} {B : Nat} {ao : Option Addr} {tn tcap g gr j : Nat} {st : Int} {av : Option Addr} {n c : Nat} {bs : List (Int × Int)} (h : TD w wr B ao tn tcap g gr j st av n c bs) : TD w wr.drew B ao tn tcap g gr j st av n c bs :=
  ⟨h.tap, h.box, h.zer, h.own, ⟨h.gb.os, h.gb.tape, h.gb.output, h.gb.size, h.gb.block⟩⟩
/-- another standing charge -/
theorem TD.putSt {w wr : World} {B : Nat} {ao : Option Addr} {tn tcap g gr j : Nat} {st : Int} {av : Option Addr} {n c : Nat} {bs : List (Int × Int)} (h : TD w wr B ao tn tcap g gr j st av n c bs) (h1 : B < w.heap.size) (h2 : w.heap.size ≤ gr) (h3 : gr < g) (x : Int) : TD w (wr.setCell ⟨g, 0, none⟩ (.int .i64 x)) B ao tn tcap g gr j x av n c bs := by
  have hg := gb_set wr g 0 (.int .i64 x)
  refine ⟨h.tap.grown hg (fun e => by have := Option.some.inj e; omega), ?_, h.zer.grown hg (fun e => by have := Option.some.inj e; omega), h.own.kept hg h.ne, gbjoin h.gb hg (fun r e => by have := Option.some.inj e; omega)⟩
  have := h.box
  unfold TfBox at this ⊢
  simp [World.setCell, Array.getElem?_modify, this]
/-- another slice in the box: it owns a row, in a world that may have grown and in which its old row may have turned -/
theorem TD.put {w wr w1 : World} {B : Nat} {ao : Option Addr} {tn tcap g gr j : Nat} {st : Int} {av av' : Option Addr} {n n' c c' : Nat} {bs bs' : List (Int × Int)} (h : TD w wr B ao tn tcap g gr j st av n c bs) (h1 : B < w.heap.size) (h2 : w.heap.size ≤ gr) (h3 : gr < g)
    {row : Option Nat} (k : wr.grownBy w1 row) (hr : ∀ r, row = some r → gr < r ∧ r ≠ g) (ho : w1.ownsRow (gr + 1) 51 2 (.slice av' n' c') n' (bkv bs')) : TD w (w1.setCell ⟨g, 1, none⟩ (.slice av' n' c')) B ao tn tcap g gr j st av' n' c' bs' := by
  have hbx : TfBox w1 g st av n c := h.box.grown k (fun e => (hr g e.symm).2 rfl)
  have hg := gb_set w1 g 1 (.slice av' n' c')
  refine ⟨?_, ?_, ?_, ho.kept hg ?_, ?_⟩
  · exact (h.tap.grown k (fun e => by have := (hr B e.symm).1; omega)).grown hg (fun e => by have := Option.some.inj e; omega)
  · unfold TfBox at hbx ⊢
    simp [World.setCell, Array.getElem?_modify, hbx]
  · exact (h.zer.grown k (fun e => by have := (hr gr e.symm).1; omega)).grown hg (fun e => by have := Option.some.inj e; omega)
  · rcases ho.2 with ⟨e, _⟩ | ⟨b, cap, cur, e, _, hb, _⟩
    · rw [e]; exact .inl rfl
    · rw [e]
      refine .inr (fun e2 => ?_)
      obtain rfl : b = g := Option.some.inj e2
      unfold TfBox at hbx
      rw [hb] at hbx; cases hbx
  · exact gbjoin (gbjoin h.gb k (fun r e => by have := hr r e; omega)) hg (fun r e => by have := Option.some.inj e; omega)
/-- a number stored into the row -/
theorem bkv_set (l : List (Int × Int)) (r : Nat) (hr : r < l.length) (x : Int) : (bkv l).set (r * 2) (.int .i64 x) = bkv (l.set r (x, (l.getD r (0, 0)).2)) ∧ (bkv l).set (r * 2 + 1) (.int .i64 x) = bkv (l.set r ((l.getD r (0, 0)).1, x)) := by
  induction l generalizing r with
  | nil => simp at hr
  | cons a l ih =>
    cases r with
    | zero => simp [bkv, encP]
    | succ r =>
      have := ih r (by simpa using hr)
      have e : (a :: l).getD (r + 1) (0, 0) = l.getD r (0, 0) := by simp [List.getD]
      rw [e, List.set_cons_succ, List.set_cons_succ, bkv_cons, bkv_cons, bkv_cons, show (r + 1) * 2 = r * 2 + 1 + 1 by omega]
      simp only [List.set_cons_succ]
      rw [this.1]
      exact ⟨rfl, by rw [this.2]⟩
theorem TD.row {w wr : World} {B : Nat} {ao : Option Addr} {tn tcap g gr j : Nat} {st : Int} {b n c : Nat} {bs : List (Int × Int)} (h : TD w wr B ao tn tcap g gr j st (some ⟨b, 0, none⟩) n c bs) (h1 : B < w.heap.size) (h2 : w.heap.size ≤ gr) (r : Nat) (hr : r < n) (x : Int) :
    (∃ bs', bs'.length = n ∧ TD w (wr.setCell ⟨b, r * 2, none⟩ (.int .i64 x)) B ao tn tcap g gr j st (some ⟨b, 0, none⟩) n c bs') ∧ (∃ bs', bs'.length = n ∧ TD w (wr.setCell ⟨b, r * 2 + 1, none⟩ (.int .i64 x)) B ao tn tcap g gr j st (some ⟨b, 0, none⟩) n c bs') := by
  have hl := h.len
  have hb := (h.own.lt b rfl).1
  have hbg : b ≠ g := fun e => by
    rcases h.ne with e2 | e2
    · cases e2
    · exact e2 (by rw [← e]; rfl)
  have key : ∀ (k : Nat) (bs' : List (Int × Int)), bs'.length = n → (bkv bs).set k (.int .i64 x) = bkv bs' → TD w (wr.setCell ⟨b, k, none⟩ (.int .i64 x)) B ao tn tcap g gr j st (some ⟨b, 0, none⟩) n c bs' := by
    intro k bs' _ he
    obtain ⟨ho, hs⟩ := h.own.stored k (.int .i64 x)
    rw [he] at ho
    exact ⟨h.tap.grown hs (fun e => by have := Option.some.inj e; omega), h.box.grown hs (fun e => hbg (Option.some.inj e).symm), h.zer.grown hs (fun e => by have := Option.some.inj e; omega), ho, gbjoin h.gb hs (fun r e => by have := Option.some.inj e; omega)⟩
  obtain ⟨e1, e2⟩ := bkv_set bs r (by omega) x
  exact ⟨⟨_, by simp [hl], key _ _ (by simp [hl]) e1⟩, ⟨_, by simp [hl], key _ _ (by simp [hl]) e2⟩⟩
theorem TD.at {w wr : World} {B : Nat} {ao : Option Addr} {tn tcap g gr j : Nat} {st : Int} {b n c : Nat} {bs : List (Int × Int)} (h : TD w wr B ao tn tcap g gr j st (some ⟨b, 0, none⟩) n c bs) (r : Nat) (hr : r < n) :
    (∃ v, wr.cell? ⟨b, r * 2, none⟩ = some v) ∧ (∃ v, wr.cell? ⟨b, r * 2 + 1, none⟩ = some v) ∧ wr.frozen? ⟨b, r * 2, none⟩ = false ∧ wr.frozen? ⟨b, r * 2 + 1, none⟩ = false := by
  have hl := h.len
  exact ⟨⟨_, (h.own.cellAt (r * 2) (by omega)).trans (List.getElem?_eq_getElem (by rw [bkv_length]; omega))⟩, ⟨_, (h.own.cellAt (r * 2 + 1) (by omega)).trans (List.getElem?_eq_getElem (by rw [bkv_length]; omega))⟩, h.own.frozenAt _, h.own.frozenAt _⟩
theorem own_front14 {w : World} {base n : Nat} {t : TypeId} {g cap : Nat} {l : List (Int × Int)} (h : w.ownsRow base t 2 (.slice (some ⟨g, 0, none⟩) n cap) n (bkv l)) {k : Nat} (hk : k ≤ n) : w.ownsRow base t 2 (.slice (some ⟨g, 0, none⟩) k cap) k (bkv (l.take k)) := by
  have hlen : l.length = n := by have := h.1; rw [bkv_length] at this; omega
  rcases h.2 with ⟨h0, _⟩ | ⟨g', cap', cur, hv, hbase, hb, hn, hc, hs, ht⟩
  · cases h0
  cases hv
  refine ⟨by rw [bkv_length, List.length_take]; omega, .inr ⟨g, cap, cur, rfl, hbase, hb, by omega, hc, hs, ?_⟩⟩
  rw [← bkv_take, ← ht, List.take_take, Nat.min_eq_left (Nat.mul_le_mul_right 2 hk)]
/-- what spoiled gives -/
def SpPost (w : World) (B : Nat) (ao : Option Addr) (tn tcap j : Nat) (e : Ending) (w' : World) : Prop :=
  ∃ (st : Int) (a : Option Addr) (c : Nat) (bs : List (Int × Int)) (j' : Nat), e = .returned (.agg #[.int .i64 st, .slice a bs.length c]) ∧ w'.ownsRow w.heap.size 51 2 (.slice a bs.length c) bs.length (bkv bs) ∧ bs.length ≤ 10 ∧
    w.grownBy w' (some B) ∧ j' ≤ j + 30 ∧ Tap w' B ao tn tcap j'
theorem TD.done {w wr : World} {B : Nat} {ao : Option Addr} {tn tcap g gr i j : Nat} {st : Int} {av : Option Addr} {n c : Nat} {bs : List (Int × Int)} (h : TD w wr B ao tn tcap g gr j st av n c bs) (h1 : B < w.heap.size) (h2 : w.heap.size ≤ gr) (hj : j ≤ i + 30) (hn : n ≤ 10) :
    SpPost w B ao tn tcap i (.returned (.agg #[.int .i64 st, .slice av n c])) ((wr.setCell ⟨gr, 0, none⟩ (.int .i64 st)).setCell ⟨gr, 1, none⟩ (.slice av n c)) ∧
    ((wr.setCell ⟨gr, 0, none⟩ (.int .i64 st)).setCell ⟨gr, 1, none⟩ (.slice av n c)).cell? ⟨gr, 0, none⟩ = some (.int .i64 st) ∧ ((wr.setCell ⟨gr, 0, none⟩ (.int .i64 st)).setCell ⟨gr, 1, none⟩ (.slice av n c)).cell? ⟨gr, 1, none⟩ = some (.slice av n c) := by
  obtain rfl : bs.length = n := h.len
  have hs : wr.grownBy ((wr.setCell ⟨gr, 0, none⟩ (.int .i64 st)).setCell ⟨gr, 1, none⟩ (.slice av bs.length c)) (some gr) := gb_trans (gb_set wr gr 0 _) (gb_set _ gr 1 _)
  have R8 : ((wr.setCell ⟨gr, 0, none⟩ (.int .i64 st)).setCell ⟨gr, 1, none⟩ (.slice av bs.length c)).heap[gr]? = some (.cells #[.int .i64 st, .slice av bs.length c] 24 (0, 0)) := by
    have := h.zer
    unfold TfBox at this
    simp [World.setCell, Array.getElem?_modify, this]
  exact ⟨⟨st, av, c, bs, j, rfl, rowmono (h.own.kept hs (rowne h.own (by omega))) (by omega), hn, gbjoin h.gb hs (fun r e => by have := Option.some.inj e; omega), hj, h.tap.grown hs (fun e => by have := Option.some.inj e; omega)⟩, by simp [World.cell?, R8], by simp [World.cell?, R8]⟩
end Go.Proofs.Ytdcnkebcpaelpaa.T14
/- Layer 14: the law's spoiled: a tariff of the tape with at most one fault. -/
namespace Go.Proofs.Ytdcnkebcpaelpaa.T14
open Go.RowKit Go.Sort C6

theorem lit4 {w : World} {L : Nat} {a b c d : Int} (h : w.heap[L]? = some (.cells #[.int .i64 a, .int .i64 b, .int .i64 c, .int .i64 d] 2 (0, 0))) {r : Nat} (hr : r < 4) : ∃ x : Int, w.cell? ⟨L, r, none⟩ = some (.int .i64 x) := by
  match r, hr with
  | 0, _ => exact ⟨a, by simp [World.cell?, h]⟩
  | 1, _ => exact ⟨b, by simp [World.cell?, h]⟩
  | 2, _ => exact ⟨c, by simp [World.cell?, h]⟩
  | 3, _ => exact ⟨d, by simp [World.cell?, h]⟩
theorem lit5 {w : World} {L : Nat} {a b c d f : Int} (h : w.heap[L]? = some (.cells #[.int .i64 a, .int .i64 b, .int .i64 c, .int .i64 d, .int .i64 f] 2 (0, 0))) {r : Nat} (hr : r < 5) : ∃ x : Int, w.cell? ⟨L, r, none⟩ = some (.int .i64 x) := by
  match r, hr with
  | 0, _ => exact ⟨a, by simp [World.cell?, h]⟩
  | 1, _ => exact ⟨b, by simp [World.cell?, h]⟩
  | 2, _ => exact ⟨c, by simp [World.cell?, h]⟩
  | 3, _ => exact ⟨d, by simp [World.cell?, h]⟩
  | 4, _ => exact ⟨f, by simp [World.cell?, h]⟩

set_option maxHeartbeats 32000000 in
set_option maxRecDepth 100000 in
theorem spoiled_v (B : Nat) (ao : Option Addr) (tcap : Nat) (ts : List Int) (j : Nat) (w : World) (hb : Tap w B ao ts.length tcap j) (ht : RdZ w ao tcap ts) (hlt : 0 < ts.length → ∀ b o, ao = some ⟨b, o, none⟩ → b < w.heap.size ∧ b ≠ B) (hj : j ≤ 1000) :
    Calls Try.prog 6 #[.pointer (some ⟨B, 0, none⟩)] w (SpPost w B ao ts.length tcap j) := by
  obtain ⟨i0, hi, hz0, hz1, hz2⟩ := info_parts infoBlk
  obtain ⟨tn, htn⟩ : ∃ tn, tn = ts.length := ⟨_, rfl⟩
  have hBw := hb.lt
  obtain ⟨W1, hW1⟩ : ∃ W, W = w.alloc (.cells #[.int .i64 0, .slice none 0 0] 24) := ⟨_, rfl⟩
  have b1 : Below w.heap.size w W1 := by rw [hW1]; exact below_new w _
  have s1 : W1.heap.size = w.heap.size + 1 := by rw [hW1]; simp
  have z1 : TfBox W1 w.heap.size 0 none 0 0 := by rw [hW1]; exact TfBox.new w _ _ _ _
  obtain ⟨gr, hgr⟩ : ∃ g, g = w.heap.size := ⟨_, rfl⟩
  have t1 : Tap W1 B ao ts.length tcap j := hb.keep b1
  have rdz : ∀ (w1 : World), w.grownBy w1 (some B) → RdZ w1 ao tcap ts := by
    intro w1 h2
    refine ⟨ht.1, ht.2.1, ?_⟩
    rcases ht.2.2 with hn | ⟨b, o, e, hc⟩
    · exact .inl hn
    · refine .inr ⟨b, o, e, fun i v hi => ?_⟩
      have hl : 0 < ts.length := by
        have := (List.getElem?_eq_some_iff.1 hi).1
        rw [intz_length] at this
        omega
      exact h2.cell (hc i v hi) (fun q => (hlt hl b o e).2 (Option.some.inj q))
  have NX : Hid (∀ (w1 : World) (i m : Nat), Tap w1 B ao tn tcap i → w.grownBy w1 (some B) → i ≤ 3000 → 1 ≤ m → m ≤ 1000000 → ∀ n : Int, n = m → Calls Try.prog 8 #[.pointer (some ⟨B, 0, none⟩), .int .i64 n] w1 (NextPost w1 B ao tn tcap i m)) := by
    intro w1 i m h1 h2 h3 h4 h5 n h6
    rw [htn] at h1 ⊢
    exact Next_v B ao tcap ts i m w1 h1 (rdz w1 h2) h3 h4 h5 n h6
  have G1 : Hid (w.grownBy W1 (some B)) := below_gb b1 _
  have TF : Hid (Calls Try.prog 16 #[.pointer (some ⟨B, 0, none⟩)] W1 (TfPost W1 B ao tn tcap j)) := by
    rw [htn]
    exact Tariff_v B ao tcap ts j W1 t1 (rdz W1 G1.out) (fun h0 b o e => by have := hlt h0 b o e; exact ⟨by omega, this.2⟩) (by omega)
  rw [← htn]
  rw [← hgr] at z1 s1
  have Z1 := Lib.hid z1
  have S1 := Lib.hid s1
  have HG : Hid (gr = w.heap.size ∧ B < w.heap.size ∧ B < gr ∧ w.heap.size ≤ gr) := ⟨hgr, hBw, by omega, by omega⟩
  have HGR := Lib.hid hgr
  clear htn hb ht hlt hBw b1 s1 z1 t1 rdz hgr
  go_enter Try.func6, Try.ntmps6
  go_wp2_with fail
  rw [← hW1]
  clear hW1
  refine (TF.out).mono ?_
  rintro e w2 ⟨st, b, c, bs, j2, rfl, own2, hst0, hst1, hok, hsm, g2, hj2, t2⟩
  obtain ⟨n, hn⟩ : ∃ n, n = bs.length := ⟨_, rfl⟩
  rw [← hn] at own2 ⊢
  have hn1 : 1 ≤ n := by have := hok.pos; omega
  have hn4 : n ≤ 4 := by have := hsm.1; omega
  have z2 : TfBox w2 gr 0 none 0 0 := Z1.out.grown g2 (fun e => by have := Option.some.inj e; have := HG.out; omega)
  obtain ⟨W3, hW3⟩ : ∃ W, W = w2.alloc (.cells #[.int .i64 st, .slice (some ⟨b, 0, none⟩) n c] 24) := ⟨_, rfl⟩
  obtain ⟨g, hg⟩ : ∃ g, g = w2.heap.size := ⟨_, rfl⟩
  have b3 : Below w2.heap.size w2 W3 := by rw [hW3]; exact below_new w2 _
  have x3 : TfBox W3 g st (some ⟨b, 0, none⟩) n c := by rw [hW3, hg]; exact TfBox.new w2 _ _ _ _
  have TD3 : Hid (TD w W3 B ao tn tcap g gr j2 st (some ⟨b, 0, none⟩) n c bs) :=
    ⟨t2.keep b3, x3, z2.below b3 z2.lt, own_below (rowmono own2 (by have := S1.out; omega)) b3, gb_trans (gb_trans G1.out g2) (below_gb b3 _)⟩
  have HG2 : Hid (gr < g) := by have := g2.size; have := S1.out; unfold Hid; omega
  have HJ : Hid (j2 ≤ j + 11) := hj2
  have HN1 := Lib.hid hn1
  have HN4 := Lib.hid hn4
  have HS := Lib.hid hg
  have HV := Lib.hid hW3
  have hcapn : n ≤ c := by
    rcases own2.2 with ⟨e, h0⟩ | ⟨_, cap', _, e, _, _, hnc, _⟩
    · cases e
    · cases e; exact hnc
  have HCN := Lib.hid hcapn
  clear g2 t2 z2 b3 x3 own2 hok hsm hj2 hst0 hst1 hn hg hW3 Z1 S1 G1 TF hcapn
  go_upto_region 2 with fail
  rw [← HV.out]
  try rw [← HS.out]
  try rw [← HGR.out]
  clear HV HS
  have q3 := TD3.out.box.cells.2
  have hjj : j2 ≤ 2000 := by have := HJ.out; omega
  go_wp2_with fail
  refine (NX.out _ j2 n TD3.out.tap TD3.out.gb (by omega) (by omega) (by omega) _ (by simp)).mono ?_
  rintro e w4 ⟨i, rfl, hi4, g4, hs4, t4⟩
  have TD4 : Hid (TD w w4 B ao tn tcap g gr (j2 + 1) st (some ⟨b, 0, none⟩) n c bs) := TD3.out.next g4 t4 HG.out.2.2.1 HG2.out
  have HI := Lib.hid hi4
  clear g4 hs4 t4 TD3 q3 hi4
  go_wp2_with fail
  refine (NX.out _ (j2 + 1) 7 TD4.out.tap TD4.out.gb (by omega) (by omega) (by omega) _ rfl).mono ?_
  rintro e w5 ⟨r, rfl, hr5, g5, hs5, t5⟩
  have TD5 : Hid (TD w w5 B ao tn tcap g gr (j2 + 1 + 1) st (some ⟨b, 0, none⟩) n c bs) := TD4.out.next g5 t5 HG.out.2.2.1 HG2.out
  clear g5 hs5 t5 TD4
  obtain ⟨q0, q1⟩ := TD5.out.box.cells
  have qf0 := TD5.out.box.fz 0
  have qf1 := TD5.out.box.fz 1
  by_cases r0 : r = 0
  · subst r0
    try clear hr5
    go_wp2_with fail
    have b6 : Below w5.heap.size w5 (w5.alloc (.cells #[.int .i64 (-1), .int .i64 0, .int .i64 1099511627776, .int .i64 1099511627777] 2)) := below_new w5 _
    have TD6 := TD5.out.below b6
    have l6 : (w5.alloc (.cells #[.int .i64 (-1), .int .i64 0, .int .i64 1099511627776, .int .i64 1099511627777] 2)).heap[w5.heap.size]? = some (.cells #[.int .i64 (-1), .int .i64 0, .int .i64 1099511627776, .int .i64 1099511627777] 2 (0, 0)) := heap_alloc_new _ _
    have hBl : B < w5.heap.size := TD5.out.tap.lt
    refine (NX.out _ (j2 + 1 + 1) 4 TD6.tap TD6.gb (by omega) (by omega) (by omega) _ rfl).mono ?_
    rintro e w7 ⟨r7, rfl, hr7, g7, hs7, t7⟩
    have TD7 : Hid (TD w w7 B ao tn tcap g gr (j2 + 1 + 1 + 1) st (some ⟨b, 0, none⟩) n c bs) := TD6.next g7 t7 HG.out.2.2.1 HG2.out
    have l7 : w7.heap[w5.heap.size]? = some (.cells #[.int .i64 (-1), .int .i64 0, .int .i64 1099511627776, .int .i64 1099511627777] 2 (0, 0)) := (g7.block w5.heap.size (by simp) (fun e => by have := Option.some.inj e; omega)).trans l6
    obtain ⟨x, hx⟩ := lit4 l7 hr7
    obtain ⟨k0, k1⟩ := TD7.out.box.cells
    have kf0 := TD7.out.box.fz 0
    have S8 := TD7.out.putSt HG.out.2.1 HG.out.2.2.2 HG2.out x
    replace S8 := Lib.hid S8
    have hrI : (r7 : Int) < 4 := by omega
    clear b6 TD6 l6 hBl g7 hs7 t7 l7
    go_upto_region 23 with fail
    have S9 := S8.out
    clear S8
    obtain ⟨W9, hW9⟩ : ∃ W9, W9 = (w7.setCell ⟨g, 0, none⟩ (.int .i64 x)) := ⟨_, rfl⟩
    rw [← hW9] at S9
    rw [← hW9]
    clear hW9
    obtain ⟨FIN, y0, y1⟩ := S9.done HG.out.2.1 HG.out.2.2.2 (i := j) (by have := HJ.out; omega) (by omega)
    obtain ⟨p0, p1⟩ := S9.box.cells
    obtain ⟨x0, x1⟩ := S9.zer.cells
    have pf0 := S9.zer.fz 0
    have pf1 := S9.zer.fz 1
    replace FIN := Lib.hid FIN
    replace y0 := Lib.hid y0
    replace y1 := Lib.hid y1
    clear S9
    go_wp2_with fail
    have e0 := y0.out
    have e1 := y1.out
    refine bodyPost_ret (v := .agg #[.int .i64 x, .slice (some ⟨b, 0, none⟩) n c]) (by simp [results, Try.results6, go_sem, e0, e1]) rfl ?_
    exact FIN.out
  have d0 : ((r : Int) == 0) = false := beq_eq_false_iff_ne.2 (by omega)
  by_cases r1 : r = 1
  · subst r1
    try clear hr5
    have q2 := (TD5.out.below (below_new w5 (.cells #[.int .i64 (-1), .int .i64 0, .int .i64 1099511627776, .int .i64 1099511627777] 2))).box.cells.2
    have hiI : (i : Int) < (n : Int) := by have := HI.out; omega
    go_wp2_with fail
    go_region_law (go_simp; go_at_call 8; (first | (refine (NX.out _ (j2 + 1 + 1) 4 (TD5.out.below (below_new w5 (.cells #[.int .i64 (-1), .int .i64 0, .int .i64 1099511627776, .int .i64 1099511627777] 2))).drew.tap (TD5.out.below (below_new w5 (.cells #[.int .i64 (-1), .int .i64 0, .int .i64 1099511627776, .int .i64 1099511627777] 2))).drew.gb (by omega) (by omega) (by omega) _ rfl).mono ?_; rintro e w7 ⟨r7, rfl, hr7, g7, hs7, t7⟩; have T7 := (TD5.out.below (below_new w5 (.cells #[.int .i64 (-1), .int .i64 0, .int .i64 1099511627776, .int .i64 1099511627777] 2))).drew.next g7 t7 HG.out.2.2.1 HG2.out; have S6 : Hid (TD w w7 B ao tn tcap g gr (j2 + 1 + 1 + 1) st (some ⟨b, 0, none⟩) n c bs) := T7; have l7 : w7.heap[w5.heap.size]? = some (.cells #[.int .i64 (-1), .int .i64 0, .int .i64 1099511627776, .int .i64 1099511627777] 2 (0, 0)) := (g7.block w5.heap.size (by simp [World.drew]) (fun e => by have := Option.some.inj e; have := TD5.out.tap.lt; omega)).trans (heap_alloc_new w5 _); obtain ⟨x, hx⟩ := lit4 l7 hr7; have k1 := T7.box.cells.2; obtain ⟨⟨v0, hv0⟩, ⟨v1, hv1⟩, vf0, vf1⟩ := T7.at i HI.out; have hrI : (r7 : Int) < 4 := (by omega); clear T7 g7 hs7 t7 l7) | (refine (NX.out _ (j2 + 1 + 1) 4 TD5.out.drew.tap TD5.out.drew.gb (by omega) (by omega) (by omega) _ rfl).mono ?_; rintro e w7 ⟨r7, rfl, hr7, g7, hs7, t7⟩; have T7 := TD5.out.drew.next g7 t7 HG.out.2.2.1 HG2.out; have T8 := T7.below (below_new w7 (.cells #[.int .i64 (-1), .int .i64 0, .int .i64 1099511627776, .int .i64 1099511627777] 2)); have S6 : Hid (TD w (w7.alloc (.cells #[.int .i64 (-1), .int .i64 0, .int .i64 1099511627776, .int .i64 1099511627777] 2)) B ao tn tcap g gr (j2 + 1 + 1 + 1) st (some ⟨b, 0, none⟩) n c bs) := T8; have l7 : (w7.alloc (.cells #[.int .i64 (-1), .int .i64 0, .int .i64 1099511627776, .int .i64 1099511627777] 2)).heap[w7.heap.size]? = some (.cells #[.int .i64 (-1), .int .i64 0, .int .i64 1099511627776, .int .i64 1099511627777] 2 (0, 0)) := heap_alloc_new w7 _; obtain ⟨x, hx⟩ := lit4 l7 hr7; have k1 := T7.box.cells.2; have k2 := T8.box.cells.2; obtain ⟨⟨v0, hv0⟩, ⟨v1, hv1⟩, vf0, vf1⟩ := T8.at i HI.out; have hrI : (r7 : Int) < 4 := (by omega); clear T7 T8 g7 hs7 t7 l7)))
    all_goals
      obtain ⟨bs', hl', S7⟩ := (S6.out.row HG.out.2.1 HG.out.2.2.2 i HI.out x).2
      clear S6 hx v0 hv0 v1 hv1 vf0 vf1 k1
      generalize World.setCell _ ⟨b, i * 2 + 1, none⟩ _ = W8 at *
      obtain ⟨W9, hW9⟩ : ∃ W9, W9 = W8 := ⟨_, rfl⟩
      rw [← hW9] at S7
      rw [← hW9]
      clear hW9
      obtain ⟨FIN, y0, y1⟩ := S7.done HG.out.2.1 HG.out.2.2.2 (i := j) (by have := HJ.out; omega) (by omega)
      obtain ⟨p0, p1⟩ := S7.box.cells
      obtain ⟨x0, x1⟩ := S7.zer.cells
      have pf0 := S7.zer.fz 0
      have pf1 := S7.zer.fz 1
      replace FIN := Lib.hid FIN
      replace y0 := Lib.hid y0
      replace y1 := Lib.hid y1
      clear S7
      go_wp2_with fail
      have e0 := y0.out
      have e1 := y1.out
      refine bodyPost_ret (v := .agg #[.int .i64 st, .slice (some ⟨b, 0, none⟩) n c]) (by simp [results, Try.results6, go_sem, e0, e1]) rfl ?_
      exact FIN.out
  have d1 : ((r : Int) == 1) = false := beq_eq_false_iff_ne.2 (by omega)
  by_cases r2 : r = 2
  · subst r2
    try clear hr5
    have q2 := (TD5.out.below (below_new w5 (.cells #[.int .i64 (-1), .int .i64 0, .int .i64 1, .int .i64 1099511627776, .int .i64 1099511627777] 2))).box.cells.2
    have hiI : (i : Int) < (n : Int) := by have := HI.out; omega
    go_wp2_with fail
    go_region_law (go_simp; go_at_call 8; (first | (refine (NX.out _ (j2 + 1 + 1) 5 (TD5.out.below (below_new w5 (.cells #[.int .i64 (-1), .int .i64 0, .int .i64 1, .int .i64 1099511627776, .int .i64 1099511627777] 2))).drew.tap (TD5.out.below (below_new w5 (.cells #[.int .i64 (-1), .int .i64 0, .int .i64 1, .int .i64 1099511627776, .int .i64 1099511627777] 2))).drew.gb (by omega) (by omega) (by omega) _ rfl).mono ?_; rintro e w7 ⟨r7, rfl, hr7, g7, hs7, t7⟩; have T7 := (TD5.out.below (below_new w5 (.cells #[.int .i64 (-1), .int .i64 0, .int .i64 1, .int .i64 1099511627776, .int .i64 1099511627777] 2))).drew.next g7 t7 HG.out.2.2.1 HG2.out; have S6 : Hid (TD w w7 B ao tn tcap g gr (j2 + 1 + 1 + 1) st (some ⟨b, 0, none⟩) n c bs) := T7; have l7 : w7.heap[w5.heap.size]? = some (.cells #[.int .i64 (-1), .int .i64 0, .int .i64 1, .int .i64 1099511627776, .int .i64 1099511627777] 2 (0, 0)) := (g7.block w5.heap.size (by simp [World.drew]) (fun e => by have := Option.some.inj e; have := TD5.out.tap.lt; omega)).trans (heap_alloc_new w5 _); obtain ⟨x, hx⟩ := lit5 l7 hr7; have k1 := T7.box.cells.2; obtain ⟨⟨v0, hv0⟩, ⟨v1, hv1⟩, vf0, vf1⟩ := T7.at i HI.out; have hrI : (r7 : Int) < 5 := (by omega); clear T7 g7 hs7 t7 l7) | (refine (NX.out _ (j2 + 1 + 1) 5 TD5.out.drew.tap TD5.out.drew.gb (by omega) (by omega) (by omega) _ rfl).mono ?_; rintro e w7 ⟨r7, rfl, hr7, g7, hs7, t7⟩; have T7 := TD5.out.drew.next g7 t7 HG.out.2.2.1 HG2.out; have T8 := T7.below (below_new w7 (.cells #[.int .i64 (-1), .int .i64 0, .int .i64 1, .int .i64 1099511627776, .int .i64 1099511627777] 2)); have S6 : Hid (TD w (w7.alloc (.cells #[.int .i64 (-1), .int .i64 0, .int .i64 1, .int .i64 1099511627776, .int .i64 1099511627777] 2)) B ao tn tcap g gr (j2 + 1 + 1 + 1) st (some ⟨b, 0, none⟩) n c bs) := T8; have l7 : (w7.alloc (.cells #[.int .i64 (-1), .int .i64 0, .int .i64 1, .int .i64 1099511627776, .int .i64 1099511627777] 2)).heap[w7.heap.size]? = some (.cells #[.int .i64 (-1), .int .i64 0, .int .i64 1, .int .i64 1099511627776, .int .i64 1099511627777] 2 (0, 0)) := heap_alloc_new w7 _; obtain ⟨x, hx⟩ := lit5 l7 hr7; have k1 := T7.box.cells.2; have k2 := T8.box.cells.2; obtain ⟨⟨v0, hv0⟩, ⟨v1, hv1⟩, vf0, vf1⟩ := T8.at i HI.out; have hrI : (r7 : Int) < 5 := (by omega); clear T7 T8 g7 hs7 t7 l7)))
    all_goals
      obtain ⟨bs', hl', S7⟩ := (S6.out.row HG.out.2.1 HG.out.2.2.2 i HI.out x).1
      clear S6 hx v0 hv0 v1 hv1 vf0 vf1 k1
      generalize World.setCell _ ⟨b, i * 2, none⟩ _ = W8 at *
      obtain ⟨W9, hW9⟩ : ∃ W9, W9 = W8 := ⟨_, rfl⟩
      rw [← hW9] at S7
      rw [← hW9]
      clear hW9
      obtain ⟨FIN, y0, y1⟩ := S7.done HG.out.2.1 HG.out.2.2.2 (i := j) (by have := HJ.out; omega) (by omega)
      obtain ⟨p0, p1⟩ := S7.box.cells
      obtain ⟨x0, x1⟩ := S7.zer.cells
      have pf0 := S7.zer.fz 0
      have pf1 := S7.zer.fz 1
      replace FIN := Lib.hid FIN
      replace y0 := Lib.hid y0
      replace y1 := Lib.hid y1
      clear S7
      go_wp2_with fail
      have e0 := y0.out
      have e1 := y1.out
      refine bodyPost_ret (v := .agg #[.int .i64 st, .slice (some ⟨b, 0, none⟩) n c]) (by simp [results, Try.results6, go_sem, e0, e1]) rfl ?_
      exact FIN.out
  have d2 : ((r : Int) == 2) = false := beq_eq_false_iff_ne.2 (by omega)
  by_cases r3 : r = 3
  · subst r3
    try clear hr5
    have hiI : (i : Int) ≤ (c : Int) := by have := HI.out; have := HCN.out; omega
    have hic : i ≤ c := by omega
    have O6 := own_front14 TD5.out.own (Nat.le_of_lt HI.out)
    have S8 := TD5.out.put HG.out.2.1 HG.out.2.2.2 HG2.out (below_gb (Below.refl _ w5) none) (fun r e => by cases e) O6
    have hin : i ≤ n := Nat.le_of_lt HI.out
    clear O6
    replace S8 := Lib.hid S8
    go_upto_region 23 with fail
    have S9 := S8.out
    clear S8
    obtain ⟨W9, hW9⟩ : ∃ W9, W9 = (w5.setCell ⟨g, 1, none⟩ (.slice (some ⟨b, 0, none⟩) i c)) := ⟨_, rfl⟩
    rw [← hW9] at S9
    rw [← hW9]
    clear hW9
    obtain ⟨FIN, y0, y1⟩ := S9.done HG.out.2.1 HG.out.2.2.2 (i := j) (by have := HJ.out; omega) (by omega)
    obtain ⟨p0, p1⟩ := S9.box.cells
    obtain ⟨x0, x1⟩ := S9.zer.cells
    have pf0 := S9.zer.fz 0
    have pf1 := S9.zer.fz 1
    replace FIN := Lib.hid FIN
    replace y0 := Lib.hid y0
    replace y1 := Lib.hid y1
    clear S9
    go_wp2_with fail
    have e0 := y0.out
    have e1 := y1.out
    refine bodyPost_ret (v := .agg #[.int .i64 st, .slice (some ⟨b, 0, none⟩) i c]) (by simp [results, Try.results6, go_sem, e0, e1]) rfl ?_
    exact FIN.out
  have d3 : ((r : Int) == 3) = false := beq_eq_false_iff_ne.2 (by omega)
  by_cases r4 : r = 4
  · subst r4
    try clear hr5
    go_wp2_with fail
    refine (NX.out _ (j2 + 1 + 1) 3 TD5.out.tap TD5.out.gb (by omega) (by omega) (by omega) _ rfl).mono ?_
    rintro e w6 ⟨r6, rfl, hr6, g6, hs6, t6⟩
    have TD6 : Hid (TD w w6 B ao tn tcap g gr (j2 + 1 + 1 + 1) st (some ⟨b, 0, none⟩) n c bs) := TD5.out.next g6 t6 HG.out.2.2.1 HG2.out
    obtain ⟨m, hm⟩ : ∃ m : Nat, (4 : Int) + (r6 : Int) = (m : Int) := ⟨4 + r6, by omega⟩
    have hmb : 4 ≤ m ∧ m ≤ 6 := by omega
    have HMB := Lib.hid hmb
    clear g6 hs6 t6 TD5 q0 q1 qf0 qf1 hmb
    go_wp2_with fail
    go_loopw [60] (fun s60 wr => ∃ (k : Nat) (b' c' : Nat) (bs' : List (Int × Int)), k ≤ m ∧ s60 = .int .i64 (k : Int) ∧ Hid (TD w wr B ao tn tcap g gr (j2 + 1 + 1 + 1) st (some ⟨b', 0, none⟩) (k + n) c' bs')) (fun s60 _ => m - (intOf s60).toNat)
    case atStart => exact ⟨0, b, c, bs, by omega, rfl, by rw [Nat.zero_add]; exact TD6.out⟩
    case round =>
      obtain ⟨k, b', c', bs', hkm, rfl, hS⟩ := hrel
      by_cases hlt : k < m
      · have hlt2 : (k : Int) < (m : Int) := by omega
        have hm6 : m ≤ 6 := HMB.out.2
        have hn4' : n ≤ 4 := HN4.out
        have hkn : k + n ≤ 10 := by omega
        obtain ⟨L6, hL6⟩ : ∃ W, W = wr.alloc (.cells #[.int .i64 (-(k : Int)), .int .i64 5] 51) := ⟨_, rfl⟩
        have b6 : Below wr.heap.size wr L6 := by rw [hL6]; exact below_new wr _
        have S6 := hS.out.below b6
        have hsz : wr.heap.size ≤ L6.heap.size := b6.size
        have hgw : gr + 1 ≤ wr.heap.size := by have := hS.out.box.lt; have := HG2.out; omega
        have OL : Hid (L6.ownsRow (gr + 1) 51 2 (.slice (some ⟨wr.heap.size, 0, none⟩) 1 1) 1 [.int .i64 (-(k : Int)), .int .i64 5]) := by rw [hL6]; exact World.ownsRow_lit wr #[.int .i64 (-(k : Int)), .int .i64 5] 1 hgw (by decide) rfl
        have NW : Hid (∀ jj u, (bkv bs')[jj]? = some u → L6.cell? ((⟨b', 0, none⟩ : Addr).add jj) = some u) := S6.own.cells rfl
        have hlb : bs'.length = k + n := S6.len
        have HLB := Lib.hid hlb
        have q6 := S6.box.cells.2
        have HS6 := Lib.hid S6
        have HGW := Lib.hid hgw
        have HB6 := Lib.hid b6
        have hwk : IntKind.i64.wrap (-(k : Int)) = -(k : Int) := by rw [IntKind.wrap_i64]; omega
        rw [hL6] at q6 OL NW
        have HL6 := Lib.hid hL6
        clear b6 S6 hsz hgw hlb hL6
        go_wp2_with (at_builtin; refine wpList_append_own _ rfl _ _ 22 rfl (gr + 1) 51 i0 (.agg #[.int .i64 0, .int .i64 0]) 2 16 Try.underlying22 hi hz0 hz1 hz2 rfl (by decide) _ _ _ rfl OL.out ⟨b', 0, none⟩ (k + n) c' (bkv bs') rfl (by rw [bkv_length, HLB.out]) NW.out (bkv_one' _) (by unfold maxLen; omega) (by omega) (by have := HGW.out; simp; omega) ?_; intro v7 w7 hown7 hgr7 _; obtain ⟨a7, c7, rfl⟩ := of_row_k hown7; rw [← HL6.out] at hgr7; have f7 := HS6.out.box.grown hgr7 (fun e => by have e2 : g = wr.heap.size := Option.some.inj e; have := hS.out.box.lt; omega); have q8 := f7.cells.2; have qf8 := f7.fz 1)
        have hn7 : 1 + (k + n) = k + 1 + n := by omega
        rw [hn7] at hown7
        obtain ⟨b7, c8, e7⟩ := ownsRow_succ (k := k + n) (by rw [show k + n + 1 = k + 1 + n by omega]; exact hown7)
        have e7' : a7 = some ⟨b7, 0, none⟩ := by simp only [Value.slice.injEq] at e7; exact e7.1
        subst e7'
        have S8 := HS6.out.put HG.out.2.1 HG.out.2.2.2 HG2.out hgr7 (fun r e => by have e2 : wr.heap.size = r := Option.some.inj e; have := hS.out.box.lt; have := HGW.out; omega) (show w7.ownsRow (gr + 1) 51 2 (.slice (some ⟨b7, 0, none⟩) (k + 1 + n) c7) (k + 1 + n) (bkv ((-(k : Int), 5) :: bs')) from hown7)
        replace S8 := Lib.hid S8
        clear hown7 hgr7 f7 q8 qf8 q6 e7 hS HS6 OL NW HL6
        try rw [hn7]
        go_roundw
        case rel => exact ⟨k + 1, b7, c7, _, by omega, by simp, S8.out⟩
        case measure => simp [intOf]; omega
      · obtain rfl : k = m := by omega
        obtain ⟨M, hM⟩ : ∃ M, k + n = M + 1 := ⟨k + n - 1, by have := HN1.out; omega⟩
        rw [hM] at hS
        have hM9 : M + 1 ≤ 10 := by have := HMB.out.2; have := HN4.out; omega
        have hMc : M + 1 ≤ c' := by
          rcases hS.out.own.2 with ⟨e, h0⟩ | ⟨_, cap', _, e, _, _, hnc, _⟩
          · cases e
          · cases e; exact hnc
        have hMcI : (M : Int) ≤ (c' : Int) := by omega
        obtain ⟨q0, q1⟩ := hS.out.box.cells
        have HM9 := Lib.hid hM9
        have hMc2 : M ≤ c' := by omega
        clear hM
        go_wp2_with fail
        go_loopw [80] (fun s80 wq => ∃ (k2 : Nat) (bs2 : List (Int × Int)), k2 ≤ M ∧ s80 = .int .i64 (k2 : Int) ∧ Hid (TD w wq B ao tn tcap g gr (j2 + 1 + 1 + 1) st (some ⟨b', 0, none⟩) (M + 1) c' bs2)) (fun s80 _ => M - (intOf s80).toNat)
        case atStart => exact ⟨0, bs', by omega, rfl, hS.out⟩
        case round =>
          obtain ⟨k2, bs2, hk2, rfl, hT⟩ := hrel
          by_cases hlt : k2 < M
          · have hlt2 : (k2 : Int) < (M : Int) := by omega
            have hk2M : (k2 : Int) < (M : Int) + 1 := by omega
            obtain ⟨p0, p1⟩ := hT.out.box.cells
            obtain ⟨⟨v0, hv0⟩, -, vf0, -⟩ := hT.out.at k2 (by omega)
            obtain ⟨bs3, -, T3⟩ := (hT.out.row HG.out.2.1 HG.out.2.2.2 k2 (by omega) ((k2 : Int) + 1)).1
            replace T3 := Lib.hid T3
            have hwk : IntKind.i64.wrap ((k2 : Int) + 1) = (k2 : Int) + 1 := wrap_mid (by omega) (by omega)
            clear hT
            go_wp2_with fail
            go_roundw
            case rel => exact ⟨k2 + 1, bs3, by omega, by simp, T3.out⟩
            case measure => simp [intOf]; omega
          · obtain rfl : k2 = M := by omega
            have S9 := hT.out
            clear hT
            go_upto_region 23 with fail
            obtain ⟨W9, hW9⟩ : ∃ W9, W9 = wr := ⟨_, rfl⟩
            rw [← hW9] at S9
            rw [← hW9]
            clear hW9
            obtain ⟨FIN, y0, y1⟩ := S9.done HG.out.2.1 HG.out.2.2.2 (i := j) (by have := HJ.out; omega) (by omega)
            obtain ⟨p0, p1⟩ := S9.box.cells
            obtain ⟨x0, x1⟩ := S9.zer.cells
            have pf0 := S9.zer.fz 0
            have pf1 := S9.zer.fz 1
            replace FIN := Lib.hid FIN
            replace y0 := Lib.hid y0
            replace y1 := Lib.hid y1
            clear S9
            go_wp2_with fail
            have e0 := y0.out
            have e1 := y1.out
            refine bodyPost_ret (v := .agg #[.int .i64 st, .slice (some ⟨b', 0, none⟩) (k2 + 1) c']) (by simp [results, Try.results6, go_sem, e0, e1]) rfl ?_
            exact FIN.out
  have d4 : ((r : Int) == 4) = false := beq_eq_false_iff_ne.2 (by omega)
  clear r0 r1 r2 r3 r4
  go_upto_region 23 with fail
  have S9 := TD5.out
  obtain ⟨W9, hW9⟩ : ∃ W9, W9 = w5 := ⟨_, rfl⟩
  rw [← hW9] at S9
  rw [← hW9]
  clear hW9
  obtain ⟨FIN, y0, y1⟩ := S9.done HG.out.2.1 HG.out.2.2.2 (i := j) (by have := HJ.out; omega) (by omega)
  obtain ⟨p0, p1⟩ := S9.box.cells
  obtain ⟨x0, x1⟩ := S9.zer.cells
  have pf0 := S9.zer.fz 0
  have pf1 := S9.zer.fz 1
  replace FIN := Lib.hid FIN
  replace y0 := Lib.hid y0
  replace y1 := Lib.hid y1
  clear S9
  go_wp2_with fail
  have e0 := y0.out
  have e1 := y1.out
  refine bodyPost_ret (v := .agg #[.int .i64 st, .slice (some ⟨b, 0, none⟩) n c]) (by simp [results, Try.results6, go_sem, e0, e1]) rfl ?_
  exact FIN.out
end Go.Proofs.Ytdcnkebcpaelpaa.T14
/- Layer 14: the law's raw: a raw tariff of at most ten blocks. -/
namespace Go.Proofs.Ytdcnkebcpaelpaa.T14
open Go.RowKit Go.Sort C6

/-- what raw gives -/
def RwPost (st : Int) (bs : List (Int × Int)) (w : World) (e : Ending) (w' : World) : Prop :=
  ∃ (a : Option Addr) (c : Nat), e = .returned (.agg #[.int .i64 st, .slice a bs.length c]) ∧ w'.ownsRow w.heap.size 51 2 (.slice a bs.length c) bs.length (bkv bs) ∧ Below w.heap.size w w'

theorem raw_fin {w w4 : World} {st : Int} {a4 : Option Addr} {q c4 gb : Nat} {l : List (Int × Int)} (hT : l.length = q) (hO : w4.ownsRow w.heap.size 51 2 (.slice a4 q c4) q (bkv l)) (hB : Below w.heap.size w w4) (hz : TfBox w4 gb 0 none 0 0) (hg : w.heap.size ≤ gb) :
    RwPost st l w (.returned (.agg #[.int .i64 st, .slice a4 q c4])) ((w4.setCell ⟨gb, 0, none⟩ (.int .i64 st)).setCell ⟨gb, 1, none⟩ (.slice a4 q c4)) ∧
    ((w4.setCell ⟨gb, 0, none⟩ (.int .i64 st)).setCell ⟨gb, 1, none⟩ (.slice a4 q c4)).cell? ⟨gb, 0, none⟩ = some (.int .i64 st) ∧ ((w4.setCell ⟨gb, 0, none⟩ (.int .i64 st)).setCell ⟨gb, 1, none⟩ (.slice a4 q c4)).cell? ⟨gb, 1, none⟩ = some (.slice a4 q c4) := by
  have hgg : w4.grownBy ((w4.setCell ⟨gb, 0, none⟩ (.int .i64 st)).setCell ⟨gb, 1, none⟩ (.slice a4 q c4)) (some gb) := gb_trans (gb_set w4 _ 0 _) (gb_set _ _ 1 _)
  have R8 : ((w4.setCell ⟨gb, 0, none⟩ (.int .i64 st)).setCell ⟨gb, 1, none⟩ (.slice a4 q c4)).heap[gb]? = some (.cells #[.int .i64 st, .slice a4 q c4] 24 (0, 0)) := by
    have := hz
    unfold TfBox at this
    simp [World.setCell, Array.getElem?_modify, this]
  refine ⟨⟨a4, c4, by rw [hT], ?_, hB.grown hgg hB.size (fun k e => by have := Option.some.inj e; omega)⟩, by simp [World.cell?, R8], by simp [World.cell?, R8]⟩
  rw [hT]
  refine hO.kept hgg ?_
  rcases hO.2 with ⟨e, _⟩ | ⟨b4, cap4, cur4, e, _, hb4, _⟩
  · rw [e]; exact .inl rfl
  · rw [e]
    refine .inr (fun e2 => ?_)
    obtain rfl : b4 = gb := Option.some.inj e2
    unfold TfBox at hz
    rw [hb4] at hz; cases hz

set_option maxHeartbeats 16000000 in
set_option maxRecDepth 100000 in
theorem raw_v (st : Int) (ao : Option Addr) (cap : Nat) (bs : List (Int × Int)) (w : World) (h : RdK w ao cap bs) :
    Calls Try.prog 9 #[.agg #[.int .i64 st, .slice ao bs.length cap]] w (RwPost st (bs.take 10) w) := by
  obtain ⟨i0, hi, hz0, hz1, hz2⟩ := info_parts infoBlk
  obtain ⟨n, hn⟩ : ∃ n, n = bs.length := ⟨_, rfl⟩
  obtain ⟨q, hq⟩ : ∃ q : Nat, min (n : Int) 10 = (q : Int) := ⟨(min (n : Int) 10).toNat, by omega⟩
  have hqn : q ≤ n := by omega
  have hcap := h.1
  have hcap2 := h.2.1
  have hqc : q ≤ cap := by omega
  have hqcI : (q : Int) ≤ (cap : Int) := by omega
  have HT : Hid ((bs.take 10).length = q) := by unfold Hid; rw [List.length_take]; omega
  obtain ⟨W1, hW1⟩ : ∃ W, W = w.alloc (.cells #[.int .i64 st, .slice ao n cap] 24) := ⟨_, rfl⟩
  obtain ⟨W2, hW2⟩ : ∃ W, W = W1.alloc (.cells #[.int .i64 0, .slice none 0 0] 24) := ⟨_, rfl⟩
  have s1 : W1.heap.size = w.heap.size + 1 := by rw [hW1]; simp
  have s2 : W2.heap.size = w.heap.size + 1 + 1 := by rw [hW2]; simp [s1]
  have b1 : Below w.heap.size w W1 := by rw [hW1]; exact below_new w _
  have b2 : Below W1.heap.size W1 W2 := by rw [hW2]; exact below_new W1 _
  have t1 : TfBox W1 w.heap.size st ao n cap := by rw [hW1]; exact TfBox.new w _ _ _ _
  have t2 : TfBox W2 w.heap.size st ao n cap := t1.below b2 t1.lt
  have z2 : TfBox W2 (w.heap.size + 1) 0 none 0 0 := by rw [hW2, ← s1]; exact TfBox.new W1 _ _ _ _
  have HB2 : Hid (Below w.heap.size w W2) := b1.trans (b2.mono b1.size)
  have HU : Hid (W2 = (w.alloc (.cells #[.int .i64 st, .slice ao n cap] 24)).alloc (.cells #[.int .i64 0, .slice none 0 0] 24)) := by unfold Hid; rw [hW2, hW1]
  have HR : Hid (RdK W2 ao cap bs) := h.below HB2.out
  obtain ⟨W3, hW3⟩ : ∃ W, W = W2.alloc (.cells #[] 51) := ⟨_, rfl⟩
  have b3 : Below W2.heap.size W2 W3 := by rw [hW3]; exact below_new W2 _
  have B3 : Hid (Below w.heap.size w (W2.alloc (.cells #[] 51)).drew) := by rw [← hW3]; exact (HB2.out.trans (b3.mono HB2.out.size)).drew
  have S3 : Hid ((W2.alloc (.cells #[] 51)).drew.heap.size = W2.heap.size + 1) := by unfold Hid; simp [World.drew]
  have R3 : Hid (RdK (W2.alloc (.cells #[] 51)).drew ao cap bs) := by rw [← hW3]; exact (HR.out.below b3.drew)
  have O3 : Hid ((W2.alloc (.cells #[] 51)).drew.ownsRow w.heap.size 51 2 (.slice (some ⟨W2.heap.size, 0, none⟩) 0 0) 0 []) := World.ownsRow_lit W2 #[] 0 HB2.out.size (by decide) rfl
  obtain ⟨gr, hgr⟩ : ∃ g, g = w.heap.size + 1 := ⟨_, rfl⟩
  have T2 := Lib.hid t2
  have Z2 := Lib.hid z2
  have S2 := Lib.hid s2
  have HN := Lib.hid hn
  have HQ := Lib.hid hq
  obtain ⟨u0, u1⟩ := t2.cells
  obtain ⟨v0, v1⟩ := (t2.below b3 t2.lt).cells
  rw [hW3] at v0 v1
  rw [← hn]
  clear h hn hq s1 s2 b1 b2 b3 t1 t2 z2 hW1 hW2 hW3 hgr
  have hmn := HQ.out
  have Z3 : Hid (TfBox (W2.alloc (.cells #[] 51)).drew (w.heap.size + 1) 0 none 0 0) := Z2.out.below (below_new W2 _).drew Z2.out.lt
  by_cases hao : ao = none
  · subst hao
    obtain ⟨hc0, hn0⟩ : cap = 0 ∧ n = 0 := by
      have hh := HR.out
      have h3 := hh.1
      rcases hh.2.2 with ⟨e1, e2⟩ | ⟨b, o, e, _⟩
      · have := e2 rfl
        have := HN.out
        exact ⟨by omega, by rw [e1] at this; simpa using this⟩
      · cases e
    subst hc0 hn0
    obtain rfl : q = 0 := by omega
    have hm0 : min (0 : Int) 10 = 0 := by decide
    clear hmn
    go_enter Try.func9, Try.ntmps9
    go_wp2_with fail
    rw [← HU.out]
    have FF := raw_fin (w := w) (st := st) HT.out (by have e : bs.take 10 = [] := List.eq_nil_of_length_eq_zero (by have := HT.out; omega); rw [e]; exact O3.out) B3.out Z3.out (by omega)
    obtain ⟨FIN, y0, y1⟩ := FF
    replace FIN := Lib.hid FIN
    replace y0 := Lib.hid y0
    replace y1 := Lib.hid y1
    have f0 : (W2.alloc (.cells #[] 51)).cell? ⟨w.heap.size + 1, 0, none⟩ = some (.int .i64 0) := Z3.out.cells.1
    have f1 : (W2.alloc (.cells #[] 51)).cell? ⟨w.heap.size + 1, 1, none⟩ = some (.slice none 0 0) := Z3.out.cells.2
    have f2 : (W2.alloc (.cells #[] 51)).frozen? ⟨w.heap.size + 1, 0, none⟩ = false := Z3.out.fz 0
    have f3 : (W2.alloc (.cells #[] 51)).frozen? ⟨w.heap.size + 1, 1, none⟩ = false := Z3.out.fz 1
    refine wp_region_held_drew (S := fun w' => Below (w.heap.size + 1) W2 w') (by kernel_rfl) ((Below.refl _ _).drew) (fun hH => ?_)
    refine wpAnyH_take (i := 0) (v := (.pointer (some ⟨w.heap.size, 0, none⟩))) rfl (by kernel_rfl) (by kernel_rfl) (by kernel_rfl) (fun _ _ _ h => h) (Or.inl ⟨by kernel_rfl, ?_⟩) hH ?_
    · intro w1 hB
      go_simp
    change wpAnyH _ _ _ _ _ _ _ (Act.put _ (some 3) _) _
    try simp only [Act.put, List.setIfInBounds_toArray, List.set_cons_zero, List.set_cons_succ]
    refine wpAnyH_take (i := 1) (v := (.int .i64 st)) rfl (by kernel_rfl) (by kernel_rfl) (by kernel_rfl) (fun _ _ _ h => h) (Or.inl ⟨by kernel_rfl, ?_⟩) hH ?_
    · intro w1 hB
      obtain ⟨k0, k1⟩ := (T2.out.below hB (by omega)).cells
      go_simp
    change wpAnyH _ _ _ _ _ _ _ (Act.put _ (some 4) _) _
    try simp only [Act.put, List.setIfInBounds_toArray, List.set_cons_zero, List.set_cons_succ]
    refine wpAnyH_take (i := 3) (v := (.pointer (some ⟨w.heap.size, 1, none⟩))) rfl (by kernel_rfl) (by kernel_rfl) (by kernel_rfl) (fun _ _ _ h => h) (Or.inl ⟨by kernel_rfl, ?_⟩) hH ?_
    · intro w1 hB
      go_simp
    change wpAnyH _ _ _ _ _ _ _ (Act.put _ (some 6) _) _
    try simp only [Act.put, List.setIfInBounds_toArray, List.set_cons_zero, List.set_cons_succ]
    refine wpAnyH_take (i := 4) (v := (.slice none 0 0)) rfl (by kernel_rfl) (by kernel_rfl) (by kernel_rfl) (fun _ _ _ h => h) (Or.inl ⟨by kernel_rfl, ?_⟩) hH ?_
    · intro w1 hB
      obtain ⟨k0, k1⟩ := (T2.out.below hB (by omega)).cells
      go_simp
    change wpAnyH _ _ _ _ _ _ _ (Act.put _ (some 7) _) _
    try simp only [Act.put, List.setIfInBounds_toArray, List.set_cons_zero, List.set_cons_succ]
    refine wpAnyH_take (i := 5) (v := (.pointer (some ⟨w.heap.size, 1, none⟩))) rfl (by kernel_rfl) (by kernel_rfl) (by kernel_rfl) (fun _ _ _ h => h) (Or.inl ⟨by kernel_rfl, ?_⟩) hH ?_
    · intro w1 hB
      go_simp
    change wpAnyH _ _ _ _ _ _ _ (Act.put _ (some 8) _) _
    try simp only [Act.put, List.setIfInBounds_toArray, List.set_cons_zero, List.set_cons_succ]
    refine wpAnyH_take (i := 6) (v := (.slice none 0 0)) rfl (by kernel_rfl) (by kernel_rfl) (by kernel_rfl) (fun _ _ _ h => h) (Or.inl ⟨by kernel_rfl, ?_⟩) hH ?_
    · intro w1 hB
      obtain ⟨k0, k1⟩ := (T2.out.below hB (by omega)).cells
      go_simp
    change wpAnyH _ _ _ _ _ _ _ (Act.put _ (some 9) _) _
    try simp only [Act.put, List.setIfInBounds_toArray, List.set_cons_zero, List.set_cons_succ]
    refine wpAnyH_take (i := 7) (v := (.int .i64 (0 : Int))) rfl (by kernel_rfl) (by kernel_rfl) (by kernel_rfl) (fun _ _ _ h => h) (Or.inl ⟨by kernel_rfl, ?_⟩) hH ?_
    · intro w1 hB
      go_simp
    change wpAnyH _ _ _ _ _ _ _ (Act.put _ (some 10) _) _
    try simp only [Act.put, List.setIfInBounds_toArray, List.set_cons_zero, List.set_cons_succ]
    refine wpAnyH_take (i := 8) (v := (.int .i64 (0 : Int))) rfl (by kernel_rfl) (by kernel_rfl) (by kernel_rfl) (fun _ _ _ h => h) (Or.inl ⟨by kernel_rfl, ?_⟩) hH ?_
    · intro w1 hB
      go_simp
    change wpAnyH _ _ _ _ _ _ _ (Act.put _ (some 11) _) _
    try simp only [Act.put, List.setIfInBounds_toArray, List.set_cons_zero, List.set_cons_succ]
    refine wpAnyH_take (i := 9) (v := (.slice none 0 0)) rfl (by kernel_rfl) (by kernel_rfl) (by kernel_rfl) (fun _ _ _ h => h) (Or.inl ⟨by kernel_rfl, ?_⟩) hH ?_
    · intro w1 hB
      go_simp
    change wpAnyH _ _ _ _ _ _ _ (Act.put _ (some 12) _) _
    try simp only [Act.put, List.setIfInBounds_toArray, List.set_cons_zero, List.set_cons_succ]
    refine wpAnyH_ready (rs := [2]) (by kernel_rfl) (by simp) ?_
    refine AllReadyH.cons rfl (fun K hK => ?_) AllReadyH.nil
    go_simp
    skip
    try go_simp
    refine hK.out _ _ (Below.alloc hH (by have := S2.out; show _ ≤ W2.heap.size; omega) _) (fun hH2 => ?_)
    clear hK K
    try simp only [Act.put, List.setIfInBounds_toArray, List.set_cons_zero, List.set_cons_succ]
    refine wpAnyH_ready (rs := [10]) (by kernel_rfl) (by simp) ?_
    refine AllReadyH.cons rfl (fun K hK => ?_) AllReadyH.nil
    go_simp
    skip
    try go_simp
    refine hK.out _ _ (by exact hH2) (fun hH10 => ?_)
    clear hK K
    try simp only [Act.put, List.setIfInBounds_toArray, List.set_cons_zero, List.set_cons_succ]
    refine wpAnyH_take (i := 11) (v := (.agg #[.int .i64 st, (.slice (some ⟨W2.heap.size, 0, none⟩) 0 0)])) rfl (by kernel_rfl) (by kernel_rfl) (by kernel_rfl) (fun _ _ _ h => h) (Or.inl ⟨by kernel_rfl, ?_⟩) hH10 ?_
    · intro w1 hB
      go_simp
    change wpAnyH _ _ _ _ _ _ _ (Act.put _ (some 14) _) _
    try simp only [Act.put, List.setIfInBounds_toArray, List.set_cons_zero, List.set_cons_succ]
    refine wpAnyH_ready (rs := [12]) (by kernel_rfl) (by simp) ?_
    refine AllReadyH.cons rfl (fun K hK => ?_) AllReadyH.nil
    go_simp
    skip
    try go_simp
    refine hK.out _ _ (Below.setCell (p := ⟨w.heap.size + 1, 1, none⟩) (Below.setCell (p := ⟨w.heap.size + 1, 0, none⟩) hH10 (Nat.le_refl _) _) (Nat.le_refl _) _) (fun hH12 => ?_)
    clear hK K
    try simp only [Act.put, List.setIfInBounds_toArray, List.set_cons_zero, List.set_cons_succ]
    refine wpAnyH_done (by kernel_rfl) ?_ _
    go_wp2_with fail
    have e0 : (((W2.alloc (.cells #[] 51)).setCell ⟨w.heap.size + 1, 0, none⟩ (.int .i64 st)).setCell ⟨w.heap.size + 1, 1, none⟩ (.slice (some ⟨W2.heap.size, 0, none⟩) 0 0)).cell? ⟨w.heap.size + 1, 0, none⟩ = some (.int .i64 st) := y0.out
    have e1 : (((W2.alloc (.cells #[] 51)).setCell ⟨w.heap.size + 1, 0, none⟩ (.int .i64 st)).setCell ⟨w.heap.size + 1, 1, none⟩ (.slice (some ⟨W2.heap.size, 0, none⟩) 0 0)).cell? ⟨w.heap.size + 1, 1, none⟩ = some (.slice (some ⟨W2.heap.size, 0, none⟩) 0 0) := y1.out
    refine bodyPost_ret (v := .agg #[.int .i64 st, .slice (some ⟨W2.heap.size, 0, none⟩) 0 0]) (by simp [results, Try.results9, go_sem, e0, e1]) rfl ?_
    exact FIN.out
  · obtain ⟨x0, rfl⟩ : ∃ x, ao = some x := by
      cases ao with
      | none => exact absurd rfl hao
      | some x => exact ⟨x, rfl⟩
    have NEWS : Hid (∀ jj u, (bkv (bs.take 10))[jj]? = some u → (W2.alloc (.cells #[] 51)).drew.cell? (x0.add jj) = some u) := by
      intro jj u hu
      by_cases h0 : 0 < (bs.take 10).length
      · obtain ⟨b, o, e, hc⟩ := (R3.out.take 10).news h0
        cases e
        exact hc jj u hu
      · have : bs.take 10 = [] := List.eq_nil_of_length_eq_zero (by omega)
        rw [this] at hu
        simp [bkv_nil] at hu
    have hq10 : q ≤ 10 := by omega
    clear hao
    go_enter Try.func9, Try.ntmps9
    go_wp2_with fail
    rw [← HU.out]
    refine wp_region_held_drew (S := fun w' => Below (w.heap.size + 1) W2 w') (by kernel_rfl) ((Below.refl _ _).drew) (fun hH => ?_)
    refine wpAnyH_take (i := 0) (v := (.pointer (some ⟨w.heap.size, 0, none⟩))) rfl (by kernel_rfl) (by kernel_rfl) (by kernel_rfl) (fun _ _ _ h => h) (Or.inl ⟨by kernel_rfl, ?_⟩) hH ?_
    · intro w1 hB
      go_simp
    change wpAnyH _ _ _ _ _ _ _ (Act.put _ (some 3) _) _
    try simp only [Act.put, List.setIfInBounds_toArray, List.set_cons_zero, List.set_cons_succ]
    refine wpAnyH_take (i := 1) (v := (.int .i64 st)) rfl (by kernel_rfl) (by kernel_rfl) (by kernel_rfl) (fun _ _ _ h => h) (Or.inl ⟨by kernel_rfl, ?_⟩) hH ?_
    · intro w1 hB
      obtain ⟨k0, k1⟩ := (T2.out.below hB (by omega)).cells
      go_simp
    change wpAnyH _ _ _ _ _ _ _ (Act.put _ (some 4) _) _
    try simp only [Act.put, List.setIfInBounds_toArray, List.set_cons_zero, List.set_cons_succ]
    refine wpAnyH_take (i := 3) (v := (.pointer (some ⟨w.heap.size, 1, none⟩))) rfl (by kernel_rfl) (by kernel_rfl) (by kernel_rfl) (fun _ _ _ h => h) (Or.inl ⟨by kernel_rfl, ?_⟩) hH ?_
    · intro w1 hB
      go_simp
    change wpAnyH _ _ _ _ _ _ _ (Act.put _ (some 6) _) _
    try simp only [Act.put, List.setIfInBounds_toArray, List.set_cons_zero, List.set_cons_succ]
    refine wpAnyH_take (i := 4) (v := (.slice (some x0) n cap)) rfl (by kernel_rfl) (by kernel_rfl) (by kernel_rfl) (fun _ _ _ h => h) (Or.inl ⟨by kernel_rfl, ?_⟩) hH ?_
    · intro w1 hB
      obtain ⟨k0, k1⟩ := (T2.out.below hB (by omega)).cells
      go_simp
    change wpAnyH _ _ _ _ _ _ _ (Act.put _ (some 7) _) _
    try simp only [Act.put, List.setIfInBounds_toArray, List.set_cons_zero, List.set_cons_succ]
    refine wpAnyH_take (i := 5) (v := (.pointer (some ⟨w.heap.size, 1, none⟩))) rfl (by kernel_rfl) (by kernel_rfl) (by kernel_rfl) (fun _ _ _ h => h) (Or.inl ⟨by kernel_rfl, ?_⟩) hH ?_
    · intro w1 hB
      go_simp
    change wpAnyH _ _ _ _ _ _ _ (Act.put _ (some 8) _) _
    try simp only [Act.put, List.setIfInBounds_toArray, List.set_cons_zero, List.set_cons_succ]
    refine wpAnyH_take (i := 6) (v := (.slice (some x0) n cap)) rfl (by kernel_rfl) (by kernel_rfl) (by kernel_rfl) (fun _ _ _ h => h) (Or.inl ⟨by kernel_rfl, ?_⟩) hH ?_
    · intro w1 hB
      obtain ⟨k0, k1⟩ := (T2.out.below hB (by omega)).cells
      go_simp
    change wpAnyH _ _ _ _ _ _ _ (Act.put _ (some 9) _) _
    try simp only [Act.put, List.setIfInBounds_toArray, List.set_cons_zero, List.set_cons_succ]
    refine wpAnyH_take (i := 7) (v := (.int .i64 (n : Int))) rfl (by kernel_rfl) (by kernel_rfl) (by kernel_rfl) (fun _ _ _ h => h) (Or.inl ⟨by kernel_rfl, ?_⟩) hH ?_
    · intro w1 hB
      go_simp
    change wpAnyH _ _ _ _ _ _ _ (Act.put _ (some 10) _) _
    try simp only [Act.put, List.setIfInBounds_toArray, List.set_cons_zero, List.set_cons_succ]
    refine wpAnyH_take (i := 8) (v := (.int .i64 (q : Int))) rfl (by kernel_rfl) (by kernel_rfl) (by kernel_rfl) (fun _ _ _ h => h) (Or.inl ⟨by kernel_rfl, ?_⟩) hH ?_
    · intro w1 hB
      go_simp
    change wpAnyH _ _ _ _ _ _ _ (Act.put _ (some 11) _) _
    try simp only [Act.put, List.setIfInBounds_toArray, List.set_cons_zero, List.set_cons_succ]
    refine wpAnyH_take (i := 9) (v := (.slice (some x0) q cap)) rfl (by kernel_rfl) (by kernel_rfl) (by kernel_rfl) (fun _ _ _ h => h) (Or.inl ⟨by kernel_rfl, ?_⟩) hH ?_
    · intro w1 hB
      go_simp
    change wpAnyH _ _ _ _ _ _ _ (Act.put _ (some 12) _) _
    try simp only [Act.put, List.setIfInBounds_toArray, List.set_cons_zero, List.set_cons_succ]
    refine wpAnyH_ready (rs := [2]) (by kernel_rfl) (by simp) ?_
    refine AllReadyH.cons rfl (fun K hK => ?_) AllReadyH.nil
    go_simp
    skip
    try go_simp
    refine hK.out _ _ (Below.alloc hH (by have := S2.out; show _ ≤ W2.heap.size; omega) _) (fun hH2 => ?_)
    clear hK K
    try simp only [Act.put, List.setIfInBounds_toArray, List.set_cons_zero, List.set_cons_succ]
    refine wpAnyH_ready (rs := [10]) (by kernel_rfl) (by simp) ?_
    refine AllReadyH.cons rfl (fun K hK => ?_) AllReadyH.nil
    rw [if_pos (by simp [Region.wanted])]
    refine wp_append_own _ (.tmp 5) (.tmp 12) 22 (by rfl) w.heap.size 51 i0 (.agg #[.int .i64 0, .int .i64 0]) 2 16 Try.underlying22 hi hz0 hz1 hz2 rfl (by decide) (.slice (some ⟨W2.heap.size, 0, none⟩) 0 0) 0 [] (by rfl) O3.out x0 q cap (bkv (bs.take 10)) (by rfl) (by rw [bkv_length, HT.out]) NEWS.out (bkv_one' _) (by unfold maxLen; omega) (by omega) B3.out.size ?_
    intro v4 w4 hown4 hgr4 _
    obtain ⟨a4, c4, rfl⟩ := of_row_k hown4
    have f4 : TfBox w4 (w.heap.size + 1) 0 none 0 0 := (Z3.out.grown hgr4 (fun e => by simp [Value.ownBlock] at e; have := S2.out; omega))
    obtain ⟨f0, f1⟩ := f4.cells
    have f2 := f4.fz 0
    have f3 := f4.fz 1
    obtain ⟨FIN, y0, y1⟩ := raw_fin (w := w) (st := st) (l := bs.take 10) HT.out (by have h := hown4; rw [Nat.zero_add, List.nil_append] at h; exact h) (B3.out.grown hgr4 B3.out.size (fun k e => by have := (O3.out.lt k e).1; omega)) f4 (by omega)
    replace FIN := Lib.hid FIN
    replace y0 := Lib.hid y0
    replace y1 := Lib.hid y1
    try go_simp
    try rw [Nat.zero_add]
    refine hK.out _ _ (Below.grown hH2 hgr4 (by have := S2.out; have := S3.out; omega) (fun k e => by simp [Value.ownBlock] at e; have := S2.out; omega)) (fun hH10 => ?_)
    clear hK K
    try simp only [Act.put, List.setIfInBounds_toArray, List.set_cons_zero, List.set_cons_succ]
    refine wpAnyH_take (i := 11) (v := (.agg #[.int .i64 st, (.slice a4 q c4)])) rfl (by kernel_rfl) (by kernel_rfl) (by kernel_rfl) (fun _ _ _ h => h) (Or.inl ⟨by kernel_rfl, ?_⟩) hH10 ?_
    · intro w1 hB
      go_simp
    change wpAnyH _ _ _ _ _ _ _ (Act.put _ (some 14) _) _
    try simp only [Act.put, List.setIfInBounds_toArray, List.set_cons_zero, List.set_cons_succ]
    refine wpAnyH_ready (rs := [12]) (by kernel_rfl) (by simp) ?_
    refine AllReadyH.cons rfl (fun K hK => ?_) AllReadyH.nil
    go_simp
    skip
    try go_simp
    refine hK.out _ _ (Below.setCell (p := ⟨w.heap.size + 1, 1, none⟩) (Below.setCell (p := ⟨w.heap.size + 1, 0, none⟩) hH10 (Nat.le_refl _) _) (Nat.le_refl _) _) (fun hH12 => ?_)
    clear hK K
    try simp only [Act.put, List.setIfInBounds_toArray, List.set_cons_zero, List.set_cons_succ]
    refine wpAnyH_done (by kernel_rfl) ?_ _
    go_wp2_with fail
    refine bodyPost_ret (v := .agg #[.int .i64 st, .slice a4 q c4]) (by have e0 := y0.out; have e1 := y1.out; simp [results, Try.results9, go_sem, e0, e1]) rfl ?_
    exact FIN.out
end Go.Proofs.Ytdcnkebcpaelpaa.T14
/- Layer 14: the law's amount: an amount about the ends of the blocks, or a great one. -/
namespace Go.Proofs.Ytdcnkebcpaelpaa.T14
open Go.RowKit Go.Sort C6

theorem lit8 {w : World} {L : Nat} {a0 a1 a2 a3 a4 a5 a6 a7 : Int} (h : w.heap[L]? = some (.cells #[.int .i64 a0, .int .i64 a1, .int .i64 a2, .int .i64 a3, .int .i64 a4, .int .i64 a5, .int .i64 a6, .int .i64 a7] 2 (0, 0))) {r : Nat} (hr : r < 8) : ∃ x : Int, w.cell? ⟨L, r, none⟩ = some (.int .i64 x) := by
  match r, hr with
  | 0, _ => exact ⟨a0, by simp [World.cell?, h]⟩
  | 1, _ => exact ⟨a1, by simp [World.cell?, h]⟩
  | 2, _ => exact ⟨a2, by simp [World.cell?, h]⟩
  | 3, _ => exact ⟨a3, by simp [World.cell?, h]⟩
  | 4, _ => exact ⟨a4, by simp [World.cell?, h]⟩
  | 5, _ => exact ⟨a5, by simp [World.cell?, h]⟩
  | 6, _ => exact ⟨a6, by simp [World.cell?, h]⟩
  | 7, _ => exact ⟨a7, by simp [World.cell?, h]⟩
def AmPost (w : World) (B : Nat) (ao : Option Addr) (tn tcap j : Nat) (e : Ending) (w' : World) : Prop := ∃ (k : Int) (j' : Nat), e = .returned (.int .i64 k) ∧ w.grownBy w' (some B) ∧ j' ≤ j + 3 ∧ Tap w' B ao tn tcap j'
/-- the tape and the tariff's box -/
structure TA (w wr : World) (B : Nat) (ao : Option Addr) (tn tcap g j : Nat) (st : Int) (av : Option Addr) (n c : Nat) (bs : List (Int × Int)) : Prop where
  tap : Tap wr B ao tn tcap j
  box : TfBox wr g st av n c
  rd : RdK wr av c bs
  off : offB av bs (fun b => b ≠ B)
  gb : w.grownBy wr (some B)
theorem TA.next {w wr w' : World} {B : Nat} {ao : Option Addr} {tn tcap g j j' : Nat} {st : Int} {av : Option Addr} {n c : Nat} {bs : List (Int × Int)} (h : TA w wr B ao tn tcap g j st av n c bs) (k : wr.grownBy w' (some B)) (t : Tap w' B ao tn tcap j') (h1 : B < g) : TA w w' B ao tn tcap g j' st av n c bs :=
  ⟨t, h.box.grown k (fun e => by have := Option.some.inj e; omega), h.rd.gbne h.off k, h.off, gb_trans h.gb k⟩
theorem TA.drew {w wr : World} {B : Nat} {ao : Option Addr} {tn tcap g j : Nat} {st : Int} {av : Option Addr} {n c : Nat} {bs : List (Int × Int)} (h : TA w wr B ao tn tcap g j st av n c bs) : TA w wr.drew B ao tn tcap g j st av n c bs :=
  ⟨h.tap, h.box, h.rd, h.off, ⟨h.gb.os, h.gb.tape, h.gb.output, h.gb.size, h.gb.block⟩⟩
theorem TA.below {w wr w' : World} {B : Nat} {ao : Option Addr} {tn tcap g j : Nat} {st : Int} {av : Option Addr} {n c : Nat} {bs : List (Int × Int)} (h : TA w wr B ao tn tcap g j st av n c bs) (k : Below wr.heap.size wr w') : TA w w' B ao tn tcap g j st av n c bs :=
  ⟨h.tap.keep k, h.box.below k h.box.lt, h.rd.below k, h.off, gb_trans h.gb (below_gb k _)⟩

end Go.Proofs.Ytdcnkebcpaelpaa.T14
