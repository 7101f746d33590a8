import Derived.Test.YtdcnkebcpaelpaaTfRz
import Derived.Test.YtdcnkebcpaelpaaTfQ0
import Derived.Test.YtdcnkebcpaelpaaTfW0
import Derived.Deep.RegionLaw
import Derived.Deep.CutBlock
/- TariffAverages for all inputs: Average and Index of the code against the reference's. -/
namespace Go.Proofs.Ytdcnkebcpaelpaa.T14
open Go.RowKit Go.Sort C6

def RwA (st : Int) (bs : List (Int × Int)) (n : Nat) (w : World) (e : Ending) (w' : World) : Prop :=
  ∃ (a : Option Addr) (c : Nat), e = .returned (.agg #[.int .i64 st, .slice a n c]) ∧ w'.ownsRow w.heap.size 51 2 (.slice a n c) n (bkv bs) ∧ Below w.heap.size w w'
theorem lit3 {w : World} {L : Nat} {a b c : Int} (h : w.heap[L]? = some (.cells #[.int .i64 a, .int .i64 b, .int .i64 c] 2 (0, 0))) {r : Nat} (hr : r < 3) : ∃ x : Int, w.cell? ⟨L, r, none⟩ = some (.int .i64 x) := by
  match r, hr with
  | 0, _ => exact ⟨a, by simp [World.cell?, h]⟩
  | 1, _ => exact ⟨b, by simp [World.cell?, h]⟩
  | 2, _ => exact ⟨c, by simp [World.cell?, h]⟩
theorem made_bkv : ∀ N : Nat, (madeCells (Value.agg #[.int .i64 0, .int .i64 0]).cells (N * 2)).toList = bkv (List.replicate N ((0 : Int), (0 : Int)))
  | 0 => by simp [madeCells, bkv]
  | N + 1 => by
    have ih := made_bkv N
    unfold madeCells at ih ⊢
    rw [show (N + 1) * 2 = N * 2 + 1 + 1 by omega]
    simp only [Array.toList_map, Array.toList_range] at ih ⊢
    rw [List.range_succ, List.range_succ, List.map_append, List.map_append, ih, List.replicate_succ', bkv_append, List.append_assoc]
    congr 1
    have h0 : N * 2 % 2 = 0 := by omega
    have h1 : (N * 2 + 1) % 2 = 1 := by omega
    simp [Value.cells, bkv, encP, h0, h1]
theorem TB.avg {w : World} {g : Nat} {st : Int} {a : Option Addr} {n c : Nat} {bs : List (Int × Int)} (h : TB w g st a n c bs) {uo : Option Addr} {uc m : Nat} {us : List (Int × Int)} (hu : RdK w uo uc us) (hm : us.length = m) (hl : m ≤ 100) :
    Calls Try.prog 10 #[.agg #[.int .i64 st, .slice a n c], .slice uo m uc] w (MkE (uE st bs us) (avgQ st bs us) 11 w) ∧ Calls Try.prog 11 #[.agg #[.int .i64 st, .slice a n c], .slice uo m uc] w (MkE (uE st bs us) (avgQ st bs us) 11 w) := by
  have h1 := Average_v st a c bs uo uc us w h.rd hu (by have := h.max; have := h.len; omega) (by omega)
  have h2 := rAverage_v st a c bs uo uc us w h.rd hu (by have := h.max; have := h.len; omega) (by omega)
  rw [h.len, hm] at h1 h2
  exact ⟨h1, h2⟩
theorem TB.idx {w : World} {g g2 : Nat} {st su : Int} {a a2 : Option Addr} {n c n2 c2 : Nat} {bs cs : List (Int × Int)} (h : TB w g st a n c bs) (k : TB w g2 su a2 n2 c2 cs) {uo : Option Addr} {uc m : Nat} {us : List (Int × Int)} (hu : RdK w uo uc us) (hm : us.length = m) (hl : m ≤ 100) :
    Calls Try.prog 12 #[.agg #[.int .i64 st, .slice a n c], .agg #[.int .i64 su, .slice a2 n2 c2], .slice uo m uc] w (MkE (iE st bs su cs us) (ixQ st bs su cs us) 23 w) ∧ Calls Try.prog 13 #[.agg #[.int .i64 st, .slice a n c], .agg #[.int .i64 su, .slice a2 n2 c2], .slice uo m uc] w (MkE (iE st bs su cs us) (ixQ st bs su cs us) 23 w) := by
  have h1 := Index_v st a c bs su a2 c2 cs uo uc us w h.rd k.rd hu (by have := h.max; have := h.len; omega) (by have := k.max; have := k.len; omega) (by omega)
  have h2 := rIndex_v st a c bs su a2 c2 cs uo uc us w h.rd k.rd hu (by have := h.max; have := h.len; omega) (by have := k.max; have := k.len; omega) (by omega)
  rw [h.len, k.len, hm] at h1 h2
  exact ⟨h1, h2⟩

/-- what stands while the law spoils its uses -/
structure SV (w wr : World) (B L gp : Nat) (sx : Int) (ax : Option Addr) (nx cx : Nat) (bx : List (Int × Int)) (sy : Int) (ay : Option Addr) (ny cy : Nat) (bY : List (Int × Int)) (sp : Int) (ap : Option Addr) (np cp : Nat) (bp : List (Int × Int)) (sq : Int) (aq : Option Addr) (nq cq : Nat) (bq : List (Int × Int)) (au : Option Addr) (cu : Nat) (bu : List (Int × Int)) : Prop where
  x : TfBox wr w.heap.size sx ax nx cx
  y : TfBox wr (w.heap.size + 1) sy ay ny cy
  p : TB wr gp sp ap np cp bp
  q : TB wr (gp + 1) sq aq nq cq bq
  rx : RdK wr ax cx bx
  ry : RdK wr ay cy bY
  ru : RdK wr au cu bu
  bw : Below w.heap.size w wr
  lx : offB ax bx (fun b => b < w.heap.size)
  ly : offB ay bY (fun b => b < w.heap.size)
  lu : offB au bu (fun b => b < w.heap.size)
  op : offB ap bp (fun b => B < b ∧ b < L)
  oq : offB aq bq (fun b => B < b ∧ b < L)
  hB : B = w.heap.size + 1 + 1
  hL : B < L ∧ L ≤ gp
section
variable {w wr w' : World} {B L gp : Nat} {sx : Int} {ax : Option Addr} {nx cx : Nat} {bx : List (Int × Int)} {sy : Int} {ay : Option Addr} {ny cy : Nat} {bY : List (Int × Int)} {sp : Int} {ap : Option Addr} {np cp : Nat} {bp : List (Int × Int)} {sq : Int} {aq : Option Addr} {nq cq : Nat} {bq : List (Int × Int)} {au : Option Addr} {cu : Nat} {bu : List (Int × Int)}
theorem SV.grown (h : SV w wr B L gp sx ax nx cx bx sy ay ny cy bY sp ap np cp bp sq aq nq cq bq au cu bu) {r : Nat} (k : wr.grownBy w' (some r)) (hr : r = B ∨ (L ≤ r ∧ r < gp) ∨ gp + 1 < r) : SV w w' B L gp sx ax nx cx bx sy ay ny cy bY sp ap np cp bp sq aq nq cq bq au cu bu := by
  have h1 := h.hB
  have h2 := h.hL
  have ne : ∀ {i : Nat}, i ≠ r → some i ≠ some r := fun h e => h (Option.some.inj e)
  exact ⟨h.x.grown k (ne (by omega)), h.y.grown k (ne (by omega)), h.p.grown k (ne (by omega)) (fun h0 b o e => ne (by have := h.op h0 b o e; omega)), h.q.grown k (ne (by omega)) (fun h0 b o e => ne (by have := h.oq h0 b o e; omega)),
    h.rx.gbne (fun h0 b o e => by have := h.lx h0 b o e; show b ≠ r; omega) k, h.ry.gbne (fun h0 b o e => by have := h.ly h0 b o e; show b ≠ r; omega) k, h.ru.gbne (fun h0 b o e => by have := h.lu h0 b o e; show b ≠ r; omega) k,
    h.bw.grown k h.bw.size (fun r' e => by have := Option.some.inj e; omega), h.lx, h.ly, h.lu, h.op, h.oq, h1, h2⟩
theorem SV.below (h : SV w wr B L gp sx ax nx cx bx sy ay ny cy bY sp ap np cp bp sq aq nq cq bq au cu bu) (k : Below wr.heap.size wr w') : SV w w' B L gp sx ax nx cx bx sy ay ny cy bY sp ap np cp bp sq aq nq cq bq au cu bu :=
  ⟨carry h.x k, carry h.y k, h.p.below k, h.q.below k, h.rx.below k, h.ry.below k, h.ru.below k, h.bw.trans (k.mono h.bw.size), h.lx, h.ly, h.lu, h.op, h.oq, h.hB, h.hL⟩
end
/-- the uses that the law has made -/
def UsIn (wr : World) (L : Nat) (uo : Option Addr) (m uc : Nat) : Prop := ∃ us : List (Int × Int), RdK wr uo uc us ∧ us.length = m ∧ m ≤ 30 ∧ offB uo us (fun b => L ≤ b)
theorem own_uses {w : World} {base L n c : Nat} {a : Option Addr} {l : List (Int × Int)} {t : TypeId} (h : w.ownsRow base t 2 (.slice a n c) n (bkv l)) (hb : L ≤ base) (hn : n ≤ 30) : UsIn w L a n c := by
  obtain ⟨h1, h2, h3⟩ := rd_of_own h
  exact ⟨l, h1, h2, hn, fun h0 b o e => Nat.le_trans hb (h3 h0 b o e)⟩
theorem own_put {w : World} {base n c b : Nat} {l : List (Int × Int)} {t : TypeId} (h : w.ownsRow base t 2 (.slice (some ⟨b, 0, none⟩) n c) n (bkv l)) (r : Nat) (hr : r < n) (x : Int) :
    (∃ l', (w.setCell ⟨b, r * 2, none⟩ (.int .i64 x)).ownsRow base t 2 (.slice (some ⟨b, 0, none⟩) n c) n (bkv l')) ∧ (∃ l', (w.setCell ⟨b, r * 2 + 1, none⟩ (.int .i64 x)).ownsRow base t 2 (.slice (some ⟨b, 0, none⟩) n c) n (bkv l')) ∧
    (∃ v, w.cell? ⟨b, r * 2, none⟩ = some v) ∧ (∃ v, w.cell? ⟨b, r * 2 + 1, none⟩ = some v) ∧ w.frozen? ⟨b, r * 2, none⟩ = false ∧ w.frozen? ⟨b, r * 2 + 1, none⟩ = false := by
  have hl : l.length = n := by have := h.1; rw [bkv_length] at this; omega
  obtain ⟨e1, e2⟩ := bkv_set l r (by omega) x
  refine ⟨⟨l.set r (x, (l.getD r (0, 0)).2), ?_⟩, ⟨l.set r ((l.getD r (0, 0)).1, x), ?_⟩, ⟨_, (h.cellAt (r * 2) (by omega)).trans (List.getElem?_eq_getElem (by rw [bkv_length]; omega))⟩, ⟨_, (h.cellAt (r * 2 + 1) (by omega)).trans (List.getElem?_eq_getElem (by rw [bkv_length]; omega))⟩, h.frozenAt _, h.frozenAt _⟩
  · rw [← e1]; exact (h.stored (r * 2) (.int .i64 x)).1
  · rw [← e2]; exact (h.stored (r * 2 + 1) (.int .i64 x)).1

/-- behind the law's 17th region: both raw tariffs stand in their boxes -/
theorem fin17 {w W9 w8 w9 : World} {B L gp g0 : Nat} {sx : Int} {ax : Option Addr} {nx cx : Nat} {bx : List (Int × Int)} {sy : Int} {ay : Option Addr} {ny cy : Nat} {bY : List (Int × Int)} {sp : Int} {ap : Option Addr} {np cp : Nat} {bp : List (Int × Int)} {sq : Int} {aq : Option Addr} {nq cq : Nat} {bq : List (Int × Int)} {au : Option Addr} {cu : Nat} {bu : List (Int × Int)}
    {a8 a9 : Option Addr} {mX mY c8 c9 : Nat} {TX TY : List (Int × Int)} {uo : Option Addr} {mm uc : Nat} {t : TypeId}
    (hg : g0 = w.heap.size) (S9 : SV w W9 B L gp sx ax nx cx bx sy ay ny cy bY sp ap np cp bp sq aq nq cq bq au cu bu) (h8 : Below W9.heap.size W9 w8) (h9 : Below W9.heap.size W9 w9)
    (o8 : w9.ownsRow W9.heap.size t 2 (.slice a8 mX c8) mX (bkv TX)) (o9 : w9.ownsRow w8.heap.size t 2 (.slice a9 mY c9) mY (bkv TY)) (lx : TX.length = mX ∧ mX ≤ 10) (ly : TY.length = mY ∧ mY ≤ 10) (hu : UsIn W9 L uo mm uc) :
    Hid (TB ((((w9.setCell ⟨g0, 0, none⟩ (.int .i64 sx)).setCell ⟨g0, 1, none⟩ (.slice a8 mX c8)).setCell ⟨g0 + 1, 0, none⟩ (.int .i64 sy)).setCell ⟨g0 + 1, 1, none⟩ (.slice a9 mY c9)) g0 sx a8 mX c8 TX ∧ TB ((((w9.setCell ⟨g0, 0, none⟩ (.int .i64 sx)).setCell ⟨g0, 1, none⟩ (.slice a8 mX c8)).setCell ⟨g0 + 1, 0, none⟩ (.int .i64 sy)).setCell ⟨g0 + 1, 1, none⟩ (.slice a9 mY c9)) (g0 + 1) sy a9 mY c9 TY) ∧
    Hid (TB ((((w9.setCell ⟨g0, 0, none⟩ (.int .i64 sx)).setCell ⟨g0, 1, none⟩ (.slice a8 mX c8)).setCell ⟨g0 + 1, 0, none⟩ (.int .i64 sy)).setCell ⟨g0 + 1, 1, none⟩ (.slice a9 mY c9)) gp sp ap np cp bp ∧ TB ((((w9.setCell ⟨g0, 0, none⟩ (.int .i64 sx)).setCell ⟨g0, 1, none⟩ (.slice a8 mX c8)).setCell ⟨g0 + 1, 0, none⟩ (.int .i64 sy)).setCell ⟨g0 + 1, 1, none⟩ (.slice a9 mY c9)) (gp + 1) sq aq nq cq bq) ∧
    Hid (RdK ((((w9.setCell ⟨g0, 0, none⟩ (.int .i64 sx)).setCell ⟨g0, 1, none⟩ (.slice a8 mX c8)).setCell ⟨g0 + 1, 0, none⟩ (.int .i64 sy)).setCell ⟨g0 + 1, 1, none⟩ (.slice a9 mY c9)) au cu (bu.take 22)) ∧
    Hid (UsIn ((((w9.setCell ⟨g0, 0, none⟩ (.int .i64 sx)).setCell ⟨g0, 1, none⟩ (.slice a8 mX c8)).setCell ⟨g0 + 1, 0, none⟩ (.int .i64 sy)).setCell ⟨g0 + 1, 1, none⟩ (.slice a9 mY c9)) L uo mm uc) ∧
    Hid (Below w.heap.size w ((((w9.setCell ⟨g0, 0, none⟩ (.int .i64 sx)).setCell ⟨g0, 1, none⟩ (.slice a8 mX c8)).setCell ⟨g0 + 1, 0, none⟩ (.int .i64 sy)).setCell ⟨g0 + 1, 1, none⟩ (.slice a9 mY c9))) := by
  obtain ⟨r8, -, p8⟩ := rd_of_own o8
  obtain ⟨r9, -, p9⟩ := rd_of_own o9
  obtain ⟨Wm, hWm⟩ : ∃ W, W = (w9.setCell ⟨g0, 0, none⟩ (.int .i64 sx)).setCell ⟨g0, 1, none⟩ (.slice a8 mX c8) := ⟨_, rfl⟩
  obtain ⟨W10, hW10⟩ : ∃ W, W = (Wm.setCell ⟨g0 + 1, 0, none⟩ (.int .i64 sy)).setCell ⟨g0 + 1, 1, none⟩ (.slice a9 mY c9) := ⟨_, rfl⟩
  rw [← hWm, ← hW10]
  have gm : w9.grownBy Wm (some g0) := by rw [hWm]; exact gb_trans (gb_set w9 g0 0 _) (gb_set _ g0 1 _)
  have gn : Wm.grownBy W10 (some (g0 + 1)) := by rw [hW10]; exact gb_trans (gb_set Wm (g0 + 1) 0 _) (gb_set _ (g0 + 1) 1 _)
  have hs := S9.x.lt
  have hs2 := S9.y.lt
  have h89 := h8.size
  have hB := S9.hB
  have hL := S9.hL
  have nn : ∀ {x y : Nat}, x ≠ y → some x ≠ some y := fun h e => h (Option.some.inj e)
  have x9 : TfBox w9 g0 sx ax nx cx := by rw [hg]; exact carry S9.x h9
  have y9 : TfBox w9 (g0 + 1) sy ay ny cy := by rw [hg]; exact carry S9.y h9
  have n8 : ∀ g, g ≤ g0 + 1 → offB a8 TX (fun b => some b ≠ some g) := fun g hg h0 b o e => nn (by have h1 : W9.heap.size ≤ b := p8 h0 b o e; omega)
  have n9 : ∀ g, g ≤ g0 + 1 → offB a9 TY (fun b => some b ≠ some g) := fun g hg h0 b o e => nn (by have h1 : w8.heap.size ≤ b := p9 h0 b o e; omega)
  have xm : TfBox Wm g0 sx a8 mX c8 := by rw [hWm]; exact x9.put2 _ _ _ _
  have ym : TfBox Wm (g0 + 1) sy ay ny cy := y9.grown gm (nn (by omega))
  have y10 : TfBox W10 (g0 + 1) sy a9 mY c9 := by rw [hW10]; exact ym.put2 _ _ _ _
  have KX : TB W10 g0 sx a8 mX c8 TX := ⟨xm.grown gn (nn (by omega)), (r8.grown (n8 g0 (by omega)) gm).grown (n8 (g0 + 1) (by omega)) gn, lx.1, lx.2⟩
  have KY : TB W10 (g0 + 1) sy a9 mY c9 TY := ⟨y10, (r9.grown (n9 g0 (by omega)) gm).grown (n9 (g0 + 1) (by omega)) gn, ly.1, ly.2⟩
  have np' : ∀ g, g ≤ g0 + 1 → offB ap bp (fun b => some b ≠ some g) := fun g hg h0 b o e => nn (by have := S9.op h0 b o e; omega)
  have nq' : ∀ g, g ≤ g0 + 1 → offB aq bq (fun b => some b ≠ some g) := fun g hg h0 b o e => nn (by have := S9.oq h0 b o e; omega)
  have nu' : ∀ g, g0 ≤ g → offB au bu (fun b => some b ≠ some g) := fun g hg h0 b o e => nn (by have := S9.lu h0 b o e; omega)
  have KP : TB W10 gp sp ap np cp bp := ((S9.p.below h9).grown gm (nn (by omega)) (np' g0 (by omega))).grown gn (nn (by omega)) (np' (g0 + 1) (by omega))
  have KQ : TB W10 (gp + 1) sq aq nq cq bq := ((S9.q.below h9).grown gm (nn (by omega)) (nq' g0 (by omega))).grown gn (nn (by omega)) (nq' (g0 + 1) (by omega))
  have KU : RdK W10 au cu bu := ((S9.ru.below h9).grown (nu' g0 (by omega)) gm).grown (nu' (g0 + 1) (by omega)) gn
  have b9 : Below w.heap.size w w9 := S9.bw.trans (h9.mono S9.bw.size)
  have bm : Below w.heap.size w Wm := b9.grown gm b9.size (fun r e => by have := Option.some.inj e; omega)
  have B10 : Below w.heap.size w W10 := bm.grown gn bm.size (fun r e => by have := Option.some.inj e; omega)
  obtain ⟨us, u1, u2, u3, u4⟩ := hu
  have ne' : ∀ g, g ≤ g0 + 1 → offB uo us (fun b => some b ≠ some g) := fun g hg h0 b o e => nn (by have h1 : L ≤ b := u4 h0 b o e; omega)
  have UU : UsIn W10 L uo mm uc := ⟨us, ((u1.below h9).grown (ne' g0 (by omega)) gm).grown (ne' (g0 + 1) (by omega)) gn, u2, u3, u4⟩
  exact ⟨⟨⟨KX.box, KX.rd, KX.len, KX.max⟩, ⟨KY.box, KY.rd, KY.len, KY.max⟩⟩, ⟨⟨KP.box, KP.rd, KP.len, KP.max⟩, ⟨KQ.box, KQ.rd, KQ.len, KQ.max⟩⟩, KU.take 22, UU, B10⟩

set_option maxHeartbeats 32000000 in
set_option maxRecDepth 100000 in
theorem TariffAverages_any (sx : Int) (ax : Option Addr) (cx : Nat) (bx : List (Int × Int)) (sy : Int) (ay : Option Addr) (cy : Nat) (bY : List (Int × Int)) (au : Option Addr) (cu : Nat) (bu : List (Int × Int)) (ao1 : Option Addr) (ts : List Int) (cap1 : Nat) (w : World) (hx : RdK w ax cx bx) (hy : RdK w ay cy bY) (hu : RdK w au cu bu) (ht : RdZ w ao1 cap1 ts) :
    Calls Try.prog 3 #[.agg #[.int .i64 sx, .slice ax bx.length cx], .agg #[.int .i64 sy, .slice ay bY.length cy], .slice au bu.length cu, .slice ao1 ts.length cap1] w fun e w' => e = .returned (.bool true) ∧ Below w.heap.size w w' := by
  obtain ⟨j0, hi, hz0, hz1, hz2⟩ := info_parts infoUse
  obtain ⟨nx, hnx⟩ : ∃ n, n = bx.length := ⟨_, rfl⟩
  obtain ⟨ny, hny⟩ : ∃ n, n = bY.length := ⟨_, rfl⟩
  obtain ⟨nu, hnu⟩ : ∃ n, n = bu.length := ⟨_, rfl⟩
  obtain ⟨tn, htn⟩ : ∃ n, n = ts.length := ⟨_, rfl⟩
  obtain ⟨W1, hW1⟩ : ∃ W, W = w.alloc (.cells #[.int .i64 sx, .slice ax nx cx] 24) := ⟨_, rfl⟩
  obtain ⟨W2, hW2⟩ : ∃ W, W = W1.alloc (.cells #[.int .i64 sy, .slice ay ny cy] 24) := ⟨_, rfl⟩
  obtain ⟨W3, hW3⟩ : ∃ W, W = W2.alloc (.cells #[.slice ao1 tn cap1, .int .i64 0] 29) := ⟨_, rfl⟩
  obtain ⟨g0, hg0⟩ : ∃ g, g = w.heap.size := ⟨_, rfl⟩
  obtain ⟨B, hB⟩ : ∃ g, g = g0 + 1 + 1 := ⟨_, rfl⟩
  have s1 : W1.heap.size = g0 + 1 := by rw [hW1, hg0]; simp
  have s2 : W2.heap.size = g0 + 1 + 1 := by rw [hW2]; simp [s1]
  have s3 : W3.heap.size = B + 1 := by rw [hW3]; simp [s2]; omega
  have b1 : Below w.heap.size w W1 := by rw [hW1]; exact below_new w _
  have b2 : Below W1.heap.size W1 W2 := by rw [hW2]; exact below_new W1 _
  have b3 : Below W2.heap.size W2 W3 := by rw [hW3]; exact below_new W2 _
  have x1 : TfBox W1 g0 sx ax nx cx := by rw [hW1, hg0]; exact TfBox.new w _ _ _ _
  have x3 : TfBox W3 g0 sx ax nx cx := carry (carry x1 b2) b3
  have y2 : TfBox W2 (g0 + 1) sy ay ny cy := by rw [hW2, ← s1]; exact TfBox.new W1 _ _ _ _
  have y3 : TfBox W3 (g0 + 1) sy ay ny cy := carry y2 b3
  have t3 : Tap W3 B ao1 tn cap1 0 := by rw [hW3, hB, ← s2]; exact Tap.new W2 _ _ _
  have B3 : Below w.heap.size w W3 := (b1.trans (b2.mono b1.size)).trans (b3.mono (by omega))
  have z3 : RdZ W3 ao1 cap1 ts := ht.below B3
  have RZ : ∀ w1, W3.grownBy w1 (some B) → RdZ w1 ao1 cap1 ts := fun w1 h1 => by
    refine ⟨z3.1, z3.2.1, ?_⟩
    rcases z3.2.2 with hn | ⟨b, o, e, hc⟩
    · exact .inl hn
    · refine .inr ⟨b, o, e, fun i v hi => ?_⟩
      have hl : 0 < ts.length := by
        have := (List.getElem?_eq_some_iff.1 hi).1
        rw [intz_length] at this
        omega
      exact h1.cell (hc i v hi) (fun q => by have h8 := rdz_lt ht hl b o e; have h9 : b = B := Option.some.inj q; omega)
  have LT : ∀ w1, W3.grownBy w1 (some B) → 0 < ts.length → ∀ b o, ao1 = some ⟨b, o, none⟩ → b < w1.heap.size ∧ b ≠ B := fun w1 h1 h0 b o e => by have h8 := rdz_lt ht h0 b o e; have h9 := h1.size; omega
  have SPO : Hid (∀ w1 j, W3.grownBy w1 (some B) → Tap w1 B ao1 tn cap1 j → j ≤ 1000 → Calls Try.prog 6 #[.pointer (some ⟨B, 0, none⟩)] w1 (SpPost w1 B ao1 tn cap1 j)) := fun w1 j h1 h2 h3 => by
    rw [htn] at h2 ⊢
    exact spoiled_v B ao1 cap1 ts j w1 h2 (RZ w1 h1) (LT w1 h1) h3
  have US : Hid (∀ w1 j, W3.grownBy w1 (some B) → Tap w1 B ao1 tn cap1 j → j ≤ 1000 → Calls Try.prog 7 #[.pointer (some ⟨B, 0, none⟩)] w1 (UsPost w1 B ao1 tn cap1 j)) := fun w1 j h1 h2 h3 => by
    rw [htn] at h2 ⊢
    exact Uses_v B ao1 cap1 ts j w1 h2 (RZ w1 h1) (LT w1 h1) (by omega)
  have NX : Hid (∀ (w1 : World) (i m : Nat), Tap w1 B ao1 tn cap1 i → W3.grownBy w1 (some B) → i ≤ 1000 → 1 ≤ m → m ≤ 1000000 → ∀ n : Int, n = m → Calls Try.prog 8 #[.pointer (some ⟨B, 0, none⟩), .int .i64 n] w1 (NextPost w1 B ao1 tn cap1 i m)) := by
    intro w1 i m h1 h2 h3 h4 h5 n h6
    rw [htn] at h1 ⊢
    exact Next_v B ao1 cap1 ts i m w1 h1 (RZ w1 h2) (by omega) h4 h5 n h6
  have T3 := Lib.hid t3
  have HB3 := Lib.hid B3
  have X3 := Lib.hid x3
  have Y3 := Lib.hid y3
  have S3 := Lib.hid s3
  have RX := Lib.hid (hx.below B3)
  have RY := Lib.hid (hy.below B3)
  have RU := Lib.hid (hu.below B3)
  have LX : Hid (offB ax bx (fun b => b < w.heap.size)) := hx.lt
  have LY : Hid (offB ay bY (fun b => b < w.heap.size)) := hy.lt
  have LU : Hid (offB au bu (fun b => b < w.heap.size)) := hu.lt
  have HNX := Lib.hid hnx
  have HNY := Lib.hid hny
  have HNU := Lib.hid hnu
  have HG0 := Lib.hid hg0
  have HBB := Lib.hid hB
  have HU : Hid (W3 = ((w.alloc (.cells #[.int .i64 sx, .slice ax nx cx] 24)).alloc (.cells #[.int .i64 sy, .slice ay ny cy] 24)).alloc (.cells #[.slice ao1 tn cap1, .int .i64 0] 29)) := by unfold Hid; rw [hW3, hW2, hW1]
  rw [← hnx, ← hny, ← hnu, ← htn]
  clear hnx hny hnu htn hx hy hu ht s1 s2 s3 b1 b2 b3 x1 x3 y2 y3 t3 B3 z3 RZ LT hW1 hW2 hW3 hg0 hB
  go_enter Try.func3, Try.ntmps3
  go_wp2_with fail
  rw [← HU.out]
  try rw [← HG0.out]
  try rw [← HBB.out]
  clear HU
  refine (SPO.out W3 0 (below_gb (Below.refl _ _) _) T3.out (by omega)).mono ?_
  rintro e w4 ⟨sp, ap, cp, bp, j4, rfl, own4, hlp, g4, hj4, t4⟩
  have T4 := Lib.hid t4
  have G4 := Lib.hid g4
  have J4 : Hid (j4 ≤ 30) := by unfold Hid; omega
  clear t4 g4 hj4
  go_wp2_with fail
  refine (SPO.out w4 j4 G4.out T4.out (by have := J4.out; omega)).mono ?_
  rintro e w5 ⟨sq, aq, cq, bq, j5, rfl, own5, hlq, g5, hj5, t5⟩
  have T5 := Lib.hid t5
  have G5 := Lib.hid g5
  have J5 : Hid (j5 ≤ 60) := by unfold Hid; have := J4.out; omega
  clear t5 g5 hj5
  go_wp2_with fail
  refine (US.out w5 j5 (gb_trans G4.out G5.out) T5.out (by have := J5.out; omega)).mono ?_
  rintro e w6 ⟨uo, uc, us, j6, rfl, own6, hu1, hu4, -, g6, hj6, t6⟩
  have T6 := Lib.hid t6
  have G6 := Lib.hid g6
  have J6 : Hid (j6 ≤ 70) := by unfold Hid; have := J5.out; omega
  clear t6 g6 hj6
  obtain ⟨np, hnp⟩ : ∃ n, n = bp.length := ⟨_, rfl⟩
  obtain ⟨nq, hnq⟩ : ∃ n, n = bq.length := ⟨_, rfl⟩
  obtain ⟨m, hm⟩ : ∃ n, n = us.length := ⟨_, rfl⟩
  rw [← hnp] at own4 hlp ⊢
  rw [← hnq] at own5 hlq ⊢
  rw [← hm] at own6 hu1 hu4 ⊢
  obtain ⟨rp4, -, op4⟩ := rd_of_own own4
  obtain ⟨rq5, -, oq5⟩ := rd_of_own own5
  obtain ⟨gp, hgp⟩ : ∃ g, g = w6.heap.size := ⟨_, rfl⟩
  obtain ⟨L, hL⟩ : ∃ g, g = w5.heap.size := ⟨_, rfl⟩
  obtain ⟨W6, hW6⟩ : ∃ W, W = w6.alloc (.cells #[.int .i64 sp, .slice ap np cp] 24) := ⟨_, rfl⟩
  obtain ⟨W7, hW7⟩ : ∃ W, W = W6.alloc (.cells #[.int .i64 sq, .slice aq nq cq] 24) := ⟨_, rfl⟩
  have s6 : W6.heap.size = gp + 1 := by rw [hW6, hgp]; simp
  have s7 : W7.heap.size = gp + 1 + 1 := by rw [hW7]; simp [s6]
  have b6 : Below w6.heap.size w6 W6 := by rw [hW6]; exact below_new w6 _
  have b7 : Below W6.heap.size W6 W7 := by rw [hW7]; exact below_new W6 _
  have b67 : Below w6.heap.size w6 W7 := b6.trans (b7.mono b6.size)
  have z4 := G4.out.size
  have z5 := G5.out.size
  have z6 := G6.out.size
  have z3 := S3.out
  have g36 : W3.grownBy w6 (some B) := gb_trans (gb_trans G4.out G5.out) G6.out
  have hBw := HBB.out
  have ne : ∀ {i : Nat}, i ≠ B → some i ≠ some B := fun h e => h (Option.some.inj e)
  have q6 : TfBox W7 (gp + 1) sq aq nq cq := by rw [hW7, ← s6]; exact TfBox.new W6 _ _ _ _
  have p6 : TfBox W7 gp sp ap np cp := by
    have : TfBox W6 gp sp ap np cp := by rw [hW6, hgp]; exact TfBox.new w6 _ _ _ _
    exact this.below b7 this.lt
  have rp6 : RdK w6 ap cp bp := (rp4.gbne (fun h0 b o e => by have := op4 h0 b o e; show b ≠ B; omega) G5.out).gbne (fun h0 b o e => by have := op4 h0 b o e; show b ≠ B; omega) G6.out
  have rq6 : RdK w6 aq cq bq := rq5.gbne (fun h0 b o e => by have := oq5 h0 b o e; show b ≠ B; omega) G6.out
  have HG := HG0.out
  have SV7 : Hid (SV w W7 B L gp sx ax nx cx bx sy ay ny cy bY sp ap np cp bp sq aq nq cq bq au cu bu) := by
    refine ⟨?_, ?_, ⟨p6, rp6.below b67, hnp.symm, hlp⟩, ⟨q6, rq6.below b67, hnq.symm, hlq⟩, ?_, ?_, ?_, ?_, LX.out, LY.out, LU.out, ?_, ?_, by omega, by omega⟩
    · rw [← HG]; exact (X3.out.grown g36 (ne (by omega))).below b67 (by omega)
    · rw [← HG]; exact (Y3.out.grown g36 (ne (by omega))).below b67 (by omega)
    · exact (RX.out.gbne (fun h0 b o e => by have := LX.out h0 b o e; show b ≠ B; omega) g36).below b67
    · exact (RY.out.gbne (fun h0 b o e => by have := LY.out h0 b o e; show b ≠ B; omega) g36).below b67
    · exact (RU.out.gbne (fun h0 b o e => by have := LU.out h0 b o e; show b ≠ B; omega) g36).below b67
    · exact (HB3.out.grown g36 HB3.out.size (fun r e => by have := Option.some.inj e; omega)).trans (b67.mono (by have := HB3.out.size; omega))
    · exact fun h0 b o e => by have h1 := op4 h0 b o e; have h2 := rp4.lt h0 b o e; show B < b ∧ b < L; omega
    · exact fun h0 b o e => by have h1 := oq5 h0 b o e; have h2 := rq5.lt h0 b o e; show B < b ∧ b < L; omega
  obtain ⟨m', rfl⟩ : ∃ m', m = m' + 1 := ⟨m - 1, by omega⟩
  obtain ⟨bu', cu'', e6⟩ := ownsRow_succ own6
  obtain ⟨rfl, -, rfl⟩ : uo = some ⟨bu', 0, none⟩ ∧ m' + 1 = m' + 1 ∧ uc = cu'' := by simpa using e6
  have hbu : L ≤ bu' ∧ bu' < gp := by
    have h1 := own6.lt bu' rfl
    rw [hL, hgp]
    exact h1
  have O7 : Hid (W7.ownsRow L 35 2 (.slice (some ⟨bu', 0, none⟩) (m' + 1) uc) (m' + 1) (bkv us)) := by rw [hL]; exact own_below own6 b67
  have T7 : Hid (Tap W7 B ao1 tn cap1 j6) := T6.out.keep b67
  have G7 : Hid (W3.grownBy W7 (some B)) := gb_trans g36 (below_gb b67 _)
  have HBU : Hid (L ≤ bu' ∧ bu' < gp) := hbu
  have HS7 : Hid (W7.heap.size = gp + 1 + 1) := s7
  have HM4 : Hid (m' + 1 ≤ 4) := hu4
  have HW7 : Hid (W7 = (w6.alloc (.cells #[.int .i64 sp, .slice ap np cp] 24)).alloc (.cells #[.int .i64 sq, .slice aq nq cq] 24)) := by unfold Hid; rw [hW7, hW6]
  have HVP := Lib.hid hgp
  clear own4 own5 own6 e6 hlp hlq hu1 hu4 hnp hnq hm rp4 op4 rq5 oq5 hgp hL hW6 hW7 s6 s7 b6 b7 b67 z4 z5 z6 z3 g36 hBw ne q6 p6 rp6 rq6 HG hbu T3 T4 T5 T6 G4 G5 G6 J4 J5 SPO US X3 Y3 S3 RX RY RU LX LY LU HB3
  go_upto_region 3 with fail
  rw [← HW7.out]
  try rw [← HVP.out]
  clear HW7 HVP
  go_wp2_with fail
  refine (NX.out W7 j6 6 T7.out G7.out (by have := J6.out; omega) (by omega) (by omega) _ rfl).mono ?_
  rintro e w8 ⟨r, rfl, hr, g8, hs8, t8⟩
  have SV8 : Hid (SV w w8 B L gp sx ax nx cx bx sy ay ny cy bY sp ap np cp bp sq aq nq cq bq au cu bu) := SV7.out.grown g8 (.inl rfl)
  have hBL := SV8.out.hL
  have O8 : Hid (w8.ownsRow L 35 2 (.slice (some ⟨bu', 0, none⟩) (m' + 1) uc) (m' + 1) (bkv us)) := O7.out.kept g8 (rowne O7.out (by omega))
  have T8 := Lib.hid t8
  have G8 : Hid (W3.grownBy w8 (some B)) := gb_trans G7.out g8
  have J8 : Hid (j6 + 1 ≤ 80) := by have := J6.out; unfold Hid; omega
  have HS8 : Hid (w8.heap.size = gp + 1 + 1) := by unfold Hid; rw [hs8]; exact HS7.out
  have HBL := Lib.hid hBL
  clear g8 hs8 t8 SV7 O7 T7 G7 J6 HS7 hBL
  go_upto_block 0 with fail
  go_cut [12] from 41 to 78 (fun v12 (wx : World) => ∃ (uo : Option Addr) (mm uc : Nat), v12 = .slice uo mm uc ∧ Hid (UsIn wx L uo mm uc) ∧ Hid (SV w wx B L gp sx ax nx cx bx sy ay ny cy bY sp ap np cp bp sq aq nq cq bq au cu bu))
  case first =>
    by_cases r0 : r = 0
    · subst r0
      try clear hr
      have b9 : Below w8.heap.size w8 (w8.alloc (.cells #[.int .i64 (-1), .int .i64 1099511627776, .int .i64 1099511627777] 2)) := below_new w8 _
      have S9 : Hid (SV w (w8.alloc (.cells #[.int .i64 (-1), .int .i64 1099511627776, .int .i64 1099511627777] 2)) B L gp sx ax nx cx bx sy ay ny cy bY sp ap np cp bp sq aq nq cq bq au cu bu) := SV8.out.below b9
      have O9 := Lib.hid (own_below O8.out b9)
      have l9 : (w8.alloc (.cells #[.int .i64 (-1), .int .i64 1099511627776, .int .i64 1099511627777] 2)).heap[w8.heap.size]? = some (.cells #[.int .i64 (-1), .int .i64 1099511627776, .int .i64 1099511627777] 2 (0, 0)) := heap_alloc_new _ _
      have T9 : Hid (Tap (w8.alloc (.cells #[.int .i64 (-1), .int .i64 1099511627776, .int .i64 1099511627777] 2)) B ao1 tn cap1 (j6 + 1)) := T8.out.keep b9
      have G9 : Hid (W3.grownBy (w8.alloc (.cells #[.int .i64 (-1), .int .i64 1099511627776, .int .i64 1099511627777] 2)) (some B)) := gb_trans G8.out (below_gb b9 _)
      have L9 := Lib.hid l9
      clear b9 l9
      go_wp2_with fail
      refine (NX.out _ (j6 + 1) 3 T9.out G9.out (by have := J8.out; omega) (by omega) (by omega) _ rfl).mono ?_
      rintro e wa ⟨ra, rfl, hra, ga, hsa, ta⟩
      have SA : Hid (SV w wa B L gp sx ax nx cx bx sy ay ny cy bY sp ap np cp bp sq aq nq cq bq au cu bu) := S9.out.grown ga (.inl rfl)
      have la : wa.heap[w8.heap.size]? = some (.cells #[.int .i64 (-1), .int .i64 1099511627776, .int .i64 1099511627777] 2 (0, 0)) := (ga.block w8.heap.size (by simp) (fun e => by have := Option.some.inj e; have := HBL.out; have := HS8.out; omega)).trans L9.out
      have OA : wa.ownsRow L 35 2 (.slice (some ⟨bu', 0, none⟩) (m' + 1) uc) (m' + 1) (bkv us) := O9.out.kept ga (rowne O9.out (by have := HBL.out; omega))
      obtain ⟨x, hx⟩ := lit3 la hra
      obtain ⟨⟨l1, o1⟩, ⟨l2, o2⟩, ⟨v1, hv1⟩, ⟨v2, hv2⟩, f1, f2⟩ := own_put OA 0 (by omega) x
      have OP := Lib.hid o1
      have SF : Hid (SV w (wa.setCell ⟨bu', 0 * 2, none⟩ (.int .i64 x)) B L gp sx ax nx cx bx sy ay ny cy bY sp ap np cp bp sq aq nq cq bq au cu bu) := SA.out.grown (gb_set wa bu' (0 * 2) (.int .i64 x)) (.inr (.inl HBU.out))
      simp only [Nat.zero_mul, Nat.zero_add] at hv1 hv2 f1 f2 OP SF
      have hraI : (ra : Int) < 3 := by omega
      clear o1 o2 la OA ga hsa ta S9 O9 L9 T9 G9
      go_wp2_with fail
      go_meet
      exact ⟨_, _, _, rfl, own_uses OP.out (Nat.le_refl _) (by have := HM4.out; omega), SF⟩
    have d0 : ((r : Int) == 0) = false := beq_eq_false_iff_ne.2 (by omega)
    by_cases r1 : r = 1
    · subst r1
      try clear hr
      have b9 : Below w8.heap.size w8 (w8.alloc (.cells #[.int .i64 (-1), .int .i64 0, .int .i64 1099511627776, .int .i64 1099511627777] 2)) := below_new w8 _
      have S9 : Hid (SV w (w8.alloc (.cells #[.int .i64 (-1), .int .i64 0, .int .i64 1099511627776, .int .i64 1099511627777] 2)) B L gp sx ax nx cx bx sy ay ny cy bY sp ap np cp bp sq aq nq cq bq au cu bu) := SV8.out.below b9
      have O9 := Lib.hid (own_below O8.out b9)
      have l9 : (w8.alloc (.cells #[.int .i64 (-1), .int .i64 0, .int .i64 1099511627776, .int .i64 1099511627777] 2)).heap[w8.heap.size]? = some (.cells #[.int .i64 (-1), .int .i64 0, .int .i64 1099511627776, .int .i64 1099511627777] 2 (0, 0)) := heap_alloc_new _ _
      have T9 : Hid (Tap (w8.alloc (.cells #[.int .i64 (-1), .int .i64 0, .int .i64 1099511627776, .int .i64 1099511627777] 2)) B ao1 tn cap1 (j6 + 1)) := T8.out.keep b9
      have G9 : Hid (W3.grownBy (w8.alloc (.cells #[.int .i64 (-1), .int .i64 0, .int .i64 1099511627776, .int .i64 1099511627777] 2)) (some B)) := gb_trans G8.out (below_gb b9 _)
      have L9 := Lib.hid l9
      clear b9 l9
      go_wp2_with fail
      refine (NX.out _ (j6 + 1) 4 T9.out G9.out (by have := J8.out; omega) (by omega) (by omega) _ rfl).mono ?_
      rintro e wa ⟨ra, rfl, hra, ga, hsa, ta⟩
      have SA : Hid (SV w wa B L gp sx ax nx cx bx sy ay ny cy bY sp ap np cp bp sq aq nq cq bq au cu bu) := S9.out.grown ga (.inl rfl)
      have la : wa.heap[w8.heap.size]? = some (.cells #[.int .i64 (-1), .int .i64 0, .int .i64 1099511627776, .int .i64 1099511627777] 2 (0, 0)) := (ga.block w8.heap.size (by simp) (fun e => by have := Option.some.inj e; have := HBL.out; have := HS8.out; omega)).trans L9.out
      have OA : wa.ownsRow L 35 2 (.slice (some ⟨bu', 0, none⟩) (m' + 1) uc) (m' + 1) (bkv us) := O9.out.kept ga (rowne O9.out (by have := HBL.out; omega))
      obtain ⟨x, hx⟩ := lit4 la hra
      obtain ⟨⟨l1, o1⟩, ⟨l2, o2⟩, ⟨v1, hv1⟩, ⟨v2, hv2⟩, f1, f2⟩ := own_put OA 0 (by omega) x
      have OP := Lib.hid o2
      have SF : Hid (SV w (wa.setCell ⟨bu', 0 * 2 + 1, none⟩ (.int .i64 x)) B L gp sx ax nx cx bx sy ay ny cy bY sp ap np cp bp sq aq nq cq bq au cu bu) := SA.out.grown (gb_set wa bu' (0 * 2 + 1) (.int .i64 x)) (.inr (.inl HBU.out))
      simp only [Nat.zero_mul, Nat.zero_add] at hv1 hv2 f1 f2 OP SF
      have hraI : (ra : Int) < 4 := by omega
      clear o1 o2 la OA ga hsa ta S9 O9 L9 T9 G9
      go_wp2_with fail
      go_meet
      exact ⟨_, _, _, rfl, own_uses OP.out (Nat.le_refl _) (by have := HM4.out; omega), SF⟩
    have d1 : ((r : Int) == 1) = false := beq_eq_false_iff_ne.2 (by omega)
    by_cases r2 : r = 2
    · subst r2
      try clear hr
      go_wp2_with fail
      go_meet
      exact ⟨none, 0, 0, rfl, ⟨[], RdK.nil _, rfl, by omega, fun h => by simp at h⟩, SV8⟩
    have d2 : ((r : Int) == 2) = false := beq_eq_false_iff_ne.2 (by omega)
    by_cases r3 : r = 3
    · subst r3
      try clear hr
      go_wp2_with fail
      refine (NX.out w8 (j6 + 1) 3 T8.out G8.out (by have := J8.out; omega) (by omega) (by omega) _ rfl).mono ?_
      rintro e wa ⟨ra, rfl, hra, ga, hsa, ta⟩
      have SA : Hid (SV w wa B L gp sx ax nx cx bx sy ay ny cy bY sp ap np cp bp sq aq nq cq bq au cu bu) := SV8.out.grown ga (.inl rfl)
      obtain ⟨N, hN⟩ : ∃ N : Nat, (19 : Int) + (ra : Int) = (N : Int) := ⟨19 + ra, by omega⟩
      have hN2 : 19 ≤ N ∧ N ≤ 21 := by omega
      have HSA : Hid (wa.heap.size = gp + 1 + 1) := by unfold Hid; rw [hsa]; exact HS8.out
      clear ga hsa ta hra
      go_upto_region 12 with (at_make; go_loud (refine wpList_make_full _ rfl _ _ 25 rfl wa.heap.size 35 j0 (.agg #[.int .i64 0, .int .i64 0]) 2 Try.underlying25 hi hz0 hz1 _ _ _ _ N rfl rfl (by omega) (by omega) (by rw [hz2]; omega) (by unfold maxLen; omega) (Nat.le_refl _) ?_); intro wb hown hgr)
      have hbb : Below wa.heap.size wa wb := (Below.refl _ _).grown hgr (Nat.le_refl _) (fun k hk => by cases hk)
      obtain ⟨bn, hbn⟩ : ∃ b, b = wa.heap.size := ⟨_, rfl⟩
      have hown0 : wb.ownsRow wa.heap.size 35 2 (.slice (some ⟨wa.heap.size, 0, none⟩) N N) N (bkv (List.replicate N ((0 : Int), (0 : Int)))) := by rw [← made_bkv]; exact hown
      rw [← hbn] at hown0
      have OB := Lib.hid hown0
      have SB : Hid (SV w wb B L gp sx ax nx cx bx sy ay ny cy bY sp ap np cp bp sq aq nq cq bq au cu bu) := SA.out.below hbb
      have HBN : Hid (gp + 1 < bn) := by unfold Hid; rw [hbn]; have := HSA.out; omega
      have HN := Lib.hid hN2
      rw [← hbn]
      clear hown hgr hown0 hbb hbn hN SA
      go_wp2_with fail
      go_loopw [71] (fun s71 wr => ∃ (i : Nat) (l : List (Int × Int)), i ≤ N ∧ s71 = .int .i64 (i : Int) ∧ Hid (wr.ownsRow bn 35 2 (.slice (some ⟨bn, 0, none⟩) N N) N (bkv l)) ∧ Hid (SV w wr B L gp sx ax nx cx bx sy ay ny cy bY sp ap np cp bp sq aq nq cq bq au cu bu)) (fun s71 _ => N - (intOf s71).toNat)
      case atStart => exact ⟨0, _, by omega, rfl, OB.out, SB.out⟩
      case round =>
        obtain ⟨i, l, hiN, rfl, hO, hS⟩ := hrel
        by_cases hlt : i < N
        · have hlt2 : (i : Int) < (N : Int) := by omega
          obtain ⟨⟨l1, o1⟩, ⟨l2, o2⟩, ⟨v1, hv1⟩, ⟨v2, hv2⟩, f1, f2⟩ := own_put hO.out i hlt 1
          have OP := Lib.hid o2
          have SF : Hid (SV w (wr.setCell ⟨bn, i * 2 + 1, none⟩ (.int .i64 1)) B L gp sx ax nx cx bx sy ay ny cy bY sp ap np cp bp sq aq nq cq bq au cu bu) := hS.out.grown (gb_set wr bn (i * 2 + 1) (.int .i64 1)) (.inr (.inr HBN.out))
          clear o1 o2 hv1 f1
          go_wp2_with fail
          go_roundw
          case rel => exact ⟨i + 1, l2, by omega, by simp, OP.out, SF.out⟩
          case measure => simp [intOf]; omega
        · obtain rfl : i = N := by omega
          go_wp2_with fail
          go_meet
          exact ⟨_, _, _, rfl, own_uses hO.out (by have := HBN.out; have := HBL.out; omega) (by have := HN.out; omega), hS⟩
    have d3 : ((r : Int) == 3) = false := beq_eq_false_iff_ne.2 (by omega)
    go_wp2_with fail
    go_meet
    exact ⟨_, _, _, rfl, own_uses O8.out (Nat.le_refl _) (by have := HM4.out; omega), SV8⟩
  case rest =>
  obtain ⟨uo, mm, uc, rfl, hus, hsv⟩ := hcut
  rename World => W9
  clear SV8 O8 T8 G8 J8 HS8 HBL HM4 HBU hr
  have HUS : Hid (UsIn W9 L uo mm uc) := hus
  have S9 : Hid (SV w W9 B L gp sx ax nx cx bx sy ay ny cy bY sp ap np cp bp sq aq nq cq bq au cu bu) := hsv
  clear hus hsv
  obtain ⟨g0', hg0'⟩ : ∃ g, g = w.heap.size := ⟨_, rfl⟩
  obtain rfl : g0' = g0 := hg0'.trans HG0.out.symm
  clear hg0'
  obtain ⟨mX, hmX⟩ : ∃ n, n = (bx.take 10).length := ⟨_, rfl⟩
  have HLX : Hid ((bx.take 10).length = mX ∧ mX ≤ 10) := ⟨hmX.symm, by rw [hmX, List.length_take]; omega⟩
  obtain ⟨TX, hTX⟩ : ∃ l, l = bx.take 10 := ⟨_, rfl⟩
  have RWX : Hid (∀ w', Below W9.heap.size W9 w' → Calls Try.prog 9 #[.agg #[.int .i64 sx, .slice ax nx cx]] w' (RwA sx TX mX w')) := fun w' hb => by
    have := raw_v sx ax cx bx w' (S9.out.rx.below hb)
    rw [← HNX.out] at this
    unfold RwPost at this
    rw [← hmX, ← hTX] at this
    exact this
  rw [← hTX] at HLX
  clear hmX hTX
  obtain ⟨mY, hmY⟩ : ∃ n, n = (bY.take 10).length := ⟨_, rfl⟩
  have HLY : Hid ((bY.take 10).length = mY ∧ mY ≤ 10) := ⟨hmY.symm, by rw [hmY, List.length_take]; omega⟩
  obtain ⟨TY, hTY⟩ : ∃ l, l = bY.take 10 := ⟨_, rfl⟩
  have RWY : Hid (∀ w', Below W9.heap.size W9 w' → Calls Try.prog 9 #[.agg #[.int .i64 sy, .slice ay ny cy]] w' (RwA sy TY mY w')) := fun w' hb => by
    have := raw_v sy ay cy bY w' (S9.out.ry.below hb)
    rw [← HNY.out] at this
    unfold RwPost at this
    rw [← hmY, ← hTY] at this
    exact this
  rw [← hTY] at HLY
  clear hmY hTY
  obtain ⟨qu, hqu⟩ : ∃ q : Nat, min (nu : Int) 22 = (q : Int) := ⟨(min (nu : Int) 22).toNat, by omega⟩
  have hquc : qu ≤ cu := by have := S9.out.ru.1; have := HNU.out; omega
  have HTU : Hid ((bu.take 22).length = qu ∧ qu ≤ 22) := ⟨by rw [List.length_take]; have := HNU.out; omega, by omega⟩
  have SX : Hid (TfBox W9 g0' sx ax nx cx) := by unfold Hid; rw [HG0.out]; exact S9.out.x
  have SY : Hid (TfBox W9 (g0' + 1) sy ay ny cy) := by unfold Hid; rw [HG0.out]; exact S9.out.y
  obtain ⟨k0, k1⟩ := SX.out.cells
  obtain ⟨j0', j1'⟩ := SY.out.cells
  go_upto_region 17 with fail
  go_cut [2] from 79 to 87 (fun v2 (wx : World) => v2 = .slice au qu cu ∧ ∃ (a8 : Option Addr) (c8 : Nat) (a9 : Option Addr) (c9 : Nat), Hid (TB wx g0' sx a8 mX c8 TX ∧ TB wx (g0' + 1) sy a9 mY c9 TY) ∧ Hid (TB wx gp sp ap np cp bp ∧ TB wx (gp + 1) sq aq nq cq bq) ∧ Hid (RdK wx au cu (bu.take 22)) ∧ Hid (UsIn wx L uo mm uc) ∧ Hid (Below w.heap.size w wx))
  case first =>
    refine wp_region_last (late := [9, 10, 11]) (S := fun w' => Below W9.heap.size W9 w') (by kernel_rfl) ((Below.refl _ _).drew) (fun hH => ?_)
    refine wpAnyL_take (bl := [1, 3, 9, 10, 11]) (i := 0) (v := (.agg #[.int .i64 sx, .slice ax nx cx])) (by kernel_rfl) rfl (by kernel_rfl) (by kernel_rfl) (by kernel_rfl) (fun _ _ _ h => h) (Or.inl ⟨by kernel_rfl, ?_⟩) hH ?_
    · intro w1 hB
      obtain ⟨k0, k1⟩ := (SX.out.below hB SX.out.lt).cells
      obtain ⟨j0, j1⟩ := (SY.out.below hB SY.out.lt).cells
      go_simp
    change wpAnyL _ _ _ _ _ _ _ _ (Act.put _ (some 79) _) _
    try simp only [Act.put, List.setIfInBounds_toArray, List.set_cons_zero, List.set_cons_succ]
    refine wpAnyL_take (bl := [3, 9, 10, 11]) (i := 2) (v := (.agg #[.int .i64 sy, .slice ay ny cy])) (by kernel_rfl) rfl (by kernel_rfl) (by kernel_rfl) (by kernel_rfl) (fun _ _ _ h => h) (Or.inl ⟨by kernel_rfl, ?_⟩) hH ?_
    · intro w1 hB
      obtain ⟨k0, k1⟩ := (SX.out.below hB SX.out.lt).cells
      obtain ⟨j0, j1⟩ := (SY.out.below hB SY.out.lt).cells
      go_simp
    change wpAnyL _ _ _ _ _ _ _ _ (Act.put _ (some 81) _) _
    try simp only [Act.put, List.setIfInBounds_toArray, List.set_cons_zero, List.set_cons_succ]
    refine wpAnyL_pure (i := 4) (v := (.slice au nu cu)) rfl (by kernel_rfl) (by kernel_rfl) (by kernel_rfl) (fun _ _ _ h => h) (Or.inl ⟨by kernel_rfl, ?_⟩) ?_
    · intro w1 hB
      go_simp
    change wpAnyL _ _ _ _ _ _ _ _ (Act.put _ (some 83) _) _
    try simp only [Act.put, List.setIfInBounds_toArray, List.set_cons_zero, List.set_cons_succ]
    refine wpAnyL_pure (i := 5) (v := (.slice au nu cu)) rfl (by kernel_rfl) (by kernel_rfl) (by kernel_rfl) (fun _ _ _ h => h) (Or.inl ⟨by kernel_rfl, ?_⟩) ?_
    · intro w1 hB
      go_simp
    change wpAnyL _ _ _ _ _ _ _ _ (Act.put _ (some 84) _) _
    try simp only [Act.put, List.setIfInBounds_toArray, List.set_cons_zero, List.set_cons_succ]
    refine wpAnyL_pure (i := 6) (v := (.int .i64 (nu : Int))) rfl (by kernel_rfl) (by kernel_rfl) (by kernel_rfl) (fun _ _ _ h => h) (Or.inl ⟨by kernel_rfl, ?_⟩) ?_
    · intro w1 hB
      go_simp
    change wpAnyL _ _ _ _ _ _ _ _ (Act.put _ (some 85) _) _
    try simp only [Act.put, List.setIfInBounds_toArray, List.set_cons_zero, List.set_cons_succ]
    refine wpAnyL_pure (i := 7) (v := (.int .i64 (qu : Int))) rfl (by kernel_rfl) (by kernel_rfl) (by kernel_rfl) (fun _ _ _ h => h) (Or.inl ⟨by kernel_rfl, ?_⟩) ?_
    · intro w1 hB
      go_simp
    change wpAnyL _ _ _ _ _ _ _ _ (Act.put _ (some 86) _) _
    try simp only [Act.put, List.setIfInBounds_toArray, List.set_cons_zero, List.set_cons_succ]
    refine wpAnyL_pure (i := 8) (v := (.slice au qu cu)) rfl (by kernel_rfl) (by kernel_rfl) (by kernel_rfl) (fun _ _ _ h => h) (Or.inl ⟨by kernel_rfl, ?_⟩) ?_
    · intro w1 hB
      go_simp
    change wpAnyL _ _ _ _ _ _ _ _ (Act.put _ (some 87) _) _
    try simp only [Act.put, List.setIfInBounds_toArray, List.set_cons_zero, List.set_cons_succ]
    refine wpAnyL_ready (rs := [1]) (by kernel_rfl) (by simp) ?_
    refine AllReadyL.cons rfl (fun K hK => ?_) AllReadyL.nil
    go_simp
    refine (RWX.out _ hH).mono ?_
    rintro e V1 ⟨a8, c8, rfl, own8, v1⟩
    replace own8 := Lib.hid own8
    try go_simp
    refine hK.out _ _ (keepB v1 hH (Nat.le_refl _)) (fun hH1 => ?_)
    clear hK K
    try simp only [Act.put, List.setIfInBounds_toArray, List.set_cons_zero, List.set_cons_succ]
    refine wpAnyL_ready (rs := [3]) (by kernel_rfl) (by simp) ?_
    refine AllReadyL.cons rfl (fun K hK => ?_) AllReadyL.nil
    go_simp
    refine (RWY.out _ hH1).mono ?_
    rintro e V3 ⟨a9, c9, rfl, own9, v3⟩
    replace own8 := Lib.hid (own_below own8.out v3)
    replace own9 := Lib.hid own9
    try go_simp
    refine hK.out _ _ (keepB v3 hH1 (Nat.le_refl _)) (fun hH3 => ?_)
    clear hK K
    try simp only [Act.put, List.setIfInBounds_toArray, List.set_cons_zero, List.set_cons_succ]
    refine wpAnyL_ready (rs := [9]) (by kernel_rfl) (by simp) ?_
    refine AllReadyL.consLate (by decide) rfl (fun K hK => ?_) AllReadyL.nil
    go_simp
    have HX9 : Hid (TfBox V3 g0' sx ax nx cx) := SX.out.below hH3 SX.out.lt
    have HY9 : Hid (TfBox V3 (g0' + 1) sy ay ny cy) := SY.out.below hH3 SY.out.lt
    obtain ⟨p0, p1⟩ := HX9.out.cells
    obtain ⟨q0, q1⟩ := HY9.out.cells
    have pf0 := HX9.out.fz 0
    have pf1 := HX9.out.fz 1
    have qf0 := HY9.out.fz 0
    have qf1 := HY9.out.fz 1
    go_simp
    try go_simp
    refine hK.out _ _ ?_
    clear hK K
    try simp only [Act.put, List.setIfInBounds_toArray, List.set_cons_zero, List.set_cons_succ]
    refine wpAnyL_ready (rs := [10]) (by kernel_rfl) (by simp) ?_
    refine AllReadyL.consLate (by decide) rfl (fun K hK => ?_) AllReadyL.nil
    go_simp
    try go_simp
    refine hK.out _ _ ?_
    clear hK K
    try simp only [Act.put, List.setIfInBounds_toArray, List.set_cons_zero, List.set_cons_succ]
    refine wpAnyL_ready (rs := [11]) (by kernel_rfl) (by simp) ?_
    refine AllReadyL.consLate (by decide) rfl (fun K hK => ?_) AllReadyL.nil
    go_simp
    try go_simp
    refine hK.out _ _ ?_
    clear hK K
    try simp only [Act.put, List.setIfInBounds_toArray, List.set_cons_zero, List.set_cons_succ]
    refine wpAnyL_done (by kernel_rfl) ?_ _
    go_wp2_with fail
    go_meet
    have FIN := fin17 HG0.out S9.out hH1 hH3 own8.out own9.out HLX.out HLY.out HUS.out
    exact ⟨rfl, a8, c8, a9, c9, FIN.1, FIN.2.1, FIN.2.2.1, FIN.2.2.2.1, FIN.2.2.2.2⟩
  case rest =>
  obtain ⟨rfl, a8, c8, a9, c9, hxy, hpq, hru, huu, hbw⟩ := hcut
  rename World => W10
  have KX : Hid (TB W10 g0' sx a8 mX c8 TX) := hxy.out.1
  have KY : Hid (TB W10 (g0' + 1) sy a9 mY c9 TY) := hxy.out.2
  have KP : Hid (TB W10 gp sp ap np cp bp) := hpq.out.1
  have KQ : Hid (TB W10 (gp + 1) sq aq nq cq bq) := hpq.out.2
  have KU : Hid (RdK W10 au cu (bu.take 22)) := hru.out
  obtain ⟨us2, hr2, hl2, hm2, -⟩ := huu.out
  have KV := Lib.hid hr2
  have HL2 := Lib.hid hl2
  have HM2 := Lib.hid hm2
  have B10 : Hid (Below w.heap.size w W10) := hbw.out
  clear hxy hpq hru huu hr2 hl2 hm2 hbw S9 HUS RWX RWY SX SY k0 k1 j0' j1' hquc hqu NX HLX HLY hi hz0 hz1 hz2
  try clear HBL
  obtain ⟨e1, he1⟩ : ∃ z, z = uE sx TX (bu.take 22) := ⟨_, rfl⟩
  obtain ⟨q1, hq1⟩ : ∃ z, z = avgQ sx TX (bu.take 22) := ⟨_, rfl⟩
  have C1 : Hid (∀ w', Below W10.heap.size W10 w' → Calls Try.prog 10 #[(.agg #[.int .i64 sx, .slice a8 mX c8]), (.slice au qu cu)] w' (MkE e1 q1 11 w')) := fun w' hb => by rw [he1, hq1]; exact (TB.avg (KX.out.below hb) (KU.out.below hb) HTU.out.1 (by have := HTU.out; omega)).1
  have R1 : Hid (∀ w', Below W10.heap.size W10 w' → Calls Try.prog 11 #[(.agg #[.int .i64 sx, .slice a8 mX c8]), (.slice au qu cu)] w' (MkE e1 q1 11 w')) := fun w' hb => by rw [he1, hq1]; exact (TB.avg (KX.out.below hb) (KU.out.below hb) HTU.out.1 (by have := HTU.out; omega)).2
  clear he1 hq1
  obtain ⟨e2, he2⟩ : ∃ z, z = iE sx TX sy TY (bu.take 22) := ⟨_, rfl⟩
  obtain ⟨q2, hq2⟩ : ∃ z, z = ixQ sx TX sy TY (bu.take 22) := ⟨_, rfl⟩
  have C2 : Hid (∀ w', Below W10.heap.size W10 w' → Calls Try.prog 12 #[(.agg #[.int .i64 sx, .slice a8 mX c8]), (.agg #[.int .i64 sy, .slice a9 mY c9]), (.slice au qu cu)] w' (MkE e2 q2 23 w')) := fun w' hb => by rw [he2, hq2]; exact (TB.idx (KX.out.below hb) (KY.out.below hb) (KU.out.below hb) HTU.out.1 (by have := HTU.out; omega)).1
  have R2 : Hid (∀ w', Below W10.heap.size W10 w' → Calls Try.prog 13 #[(.agg #[.int .i64 sx, .slice a8 mX c8]), (.agg #[.int .i64 sy, .slice a9 mY c9]), (.slice au qu cu)] w' (MkE e2 q2 23 w')) := fun w' hb => by rw [he2, hq2]; exact (TB.idx (KX.out.below hb) (KY.out.below hb) (KU.out.below hb) HTU.out.1 (by have := HTU.out; omega)).2
  clear he2 hq2
  obtain ⟨e3, he3⟩ : ∃ z, z = uE sp bp us2 := ⟨_, rfl⟩
  obtain ⟨q3, hq3⟩ : ∃ z, z = avgQ sp bp us2 := ⟨_, rfl⟩
  have C3 : Hid (∀ w', Below W10.heap.size W10 w' → Calls Try.prog 10 #[(.agg #[.int .i64 sp, .slice ap np cp]), (.slice uo mm uc)] w' (MkE e3 q3 11 w')) := fun w' hb => by rw [he3, hq3]; exact (TB.avg (KP.out.below hb) (KV.out.below hb) HL2.out (by have := HM2.out; omega)).1
  have R3 : Hid (∀ w', Below W10.heap.size W10 w' → Calls Try.prog 11 #[(.agg #[.int .i64 sp, .slice ap np cp]), (.slice uo mm uc)] w' (MkE e3 q3 11 w')) := fun w' hb => by rw [he3, hq3]; exact (TB.avg (KP.out.below hb) (KV.out.below hb) HL2.out (by have := HM2.out; omega)).2
  clear he3 hq3
  obtain ⟨e4, he4⟩ : ∃ z, z = iE sp bp sq bq us2 := ⟨_, rfl⟩
  obtain ⟨q4, hq4⟩ : ∃ z, z = ixQ sp bp sq bq us2 := ⟨_, rfl⟩
  have C4 : Hid (∀ w', Below W10.heap.size W10 w' → Calls Try.prog 12 #[(.agg #[.int .i64 sp, .slice ap np cp]), (.agg #[.int .i64 sq, .slice aq nq cq]), (.slice uo mm uc)] w' (MkE e4 q4 23 w')) := fun w' hb => by rw [he4, hq4]; exact (TB.idx (KP.out.below hb) (KQ.out.below hb) (KV.out.below hb) HL2.out (by have := HM2.out; omega)).1
  have R4 : Hid (∀ w', Below W10.heap.size W10 w' → Calls Try.prog 13 #[(.agg #[.int .i64 sp, .slice ap np cp]), (.agg #[.int .i64 sq, .slice aq nq cq]), (.slice uo mm uc)] w' (MkE e4 q4 23 w')) := fun w' hb => by rw [he4, hq4]; exact (TB.idx (KP.out.below hb) (KQ.out.below hb) (KV.out.below hb) HL2.out (by have := HM2.out; omega)).2
  clear he4 hq4
  have RB10 : Hid (Below W10.heap.size W10 W10) := Below.refl _ _
  obtain ⟨k0, k1⟩ := (KX.out.below RB10.out).box.cells
  obtain ⟨j0, j1⟩ := (KY.out.below RB10.out).box.cells
  obtain ⟨l0, l1⟩ := (KP.out.below RB10.out).box.cells
  obtain ⟨m0, m1⟩ := (KQ.out.below RB10.out).box.cells
  go_wp2_with fail
  refine (C1.out _ RB10.out).mono ?_
  rintro e u18 ⟨v18, rfl, ⟨s18, a18, n18, c18, o18, m18, d18, rfl, q18⟩, h18⟩
  obtain ⟨U18, hU18⟩ : ∃ W, W = u18.alloc (.cells #[.bool s18, .slice a18 n18 c18, .slice o18 m18 d18] 40) := ⟨_, rfl⟩
  obtain ⟨g18, hg18⟩ : ∃ g, g = u18.heap.size := ⟨_, rfl⟩
  have x18 : U18.heap[g18]? = some (.cells #[.bool s18, .slice a18 n18 c18, .slice o18 m18 d18] 40 (0, 0)) := by rw [hU18, hg18]; exact heap_alloc_new _ _
  have e18 : Below u18.heap.size u18 U18 := by rw [hU18]; exact below_new u18 _
  have f18 : Below W10.heap.size W10 U18 := h18.trans (e18.mono h18.size)
  have BB18 : Hid (Below W10.heap.size W10 U18) := Below.trans RB10.out (f18.mono (Below.size RB10.out))
  have XX18 := Lib.hid x18
  have QQ18 : Hid (IsQ q1 11 (.agg #[.bool s18, .slice a18 n18 c18, .slice o18 m18 d18]) U18) := ⟨_, _, _, _, _, _, _, rfl, q18.below e18⟩
  clear k0 k1 j0 j1 l0 l1 m0 m1
  obtain ⟨k0, k1⟩ := (KX.out.below BB18.out).box.cells
  obtain ⟨j0, j1⟩ := (KY.out.below BB18.out).box.cells
  obtain ⟨l0, l1⟩ := (KP.out.below BB18.out).box.cells
  obtain ⟨m0, m1⟩ := (KQ.out.below BB18.out).box.cells
  rw [hU18] at k0 k1 j0 j1 l0 l1 m0 m1
  have HU18 := Lib.hid hU18
  have HG18 := Lib.hid hg18
  clear x18 e18 f18 h18 q18 hU18 hg18
  go_upto_region 19 with fail
  rw [← HU18.out] at k0 k1 j0 j1 l0 l1 m0 m1 ⊢
  try rw [← HG18.out]
  clear HU18 HG18
  go_wp2_with fail
  refine (R1.out _ BB18.out).mono ?_
  rintro e u19 ⟨v19, rfl, ⟨s19, a19, n19, c19, o19, m19, d19, rfl, q19⟩, h19⟩
  obtain ⟨U19, hU19⟩ : ∃ W, W = u19.alloc (.cells #[.bool s19, .slice a19 n19 c19, .slice o19 m19 d19] 40) := ⟨_, rfl⟩
  obtain ⟨g19, hg19⟩ : ∃ g, g = u19.heap.size := ⟨_, rfl⟩
  have x19 : U19.heap[g19]? = some (.cells #[.bool s19, .slice a19 n19 c19, .slice o19 m19 d19] 40 (0, 0)) := by rw [hU19, hg19]; exact heap_alloc_new _ _
  have e19 : Below u19.heap.size u19 U19 := by rw [hU19]; exact below_new u19 _
  have f19 : Below U18.heap.size U18 U19 := h19.trans (e19.mono h19.size)
  have BB19 : Hid (Below W10.heap.size W10 U19) := Below.trans BB18.out (f19.mono (Below.size BB18.out))
  have XX19 := Lib.hid x19
  have QQ19 : Hid (IsQ q1 11 (.agg #[.bool s19, .slice a19 n19 c19, .slice o19 m19 d19]) U19) := ⟨_, _, _, _, _, _, _, rfl, q19.below e19⟩
  replace XX18 := Lib.hid (carry XX18.out f19)
  replace QQ18 := Lib.hid (IsQ.below QQ18.out f19)
  clear k0 k1 j0 j1 l0 l1 m0 m1
  obtain ⟨k0, k1⟩ := (KX.out.below BB19.out).box.cells
  obtain ⟨j0, j1⟩ := (KY.out.below BB19.out).box.cells
  obtain ⟨l0, l1⟩ := (KP.out.below BB19.out).box.cells
  obtain ⟨m0, m1⟩ := (KQ.out.below BB19.out).box.cells
  rw [hU19] at k0 k1 j0 j1 l0 l1 m0 m1
  have HU19 := Lib.hid hU19
  have HG19 := Lib.hid hg19
  clear x19 e19 f19 h19 q19 hU19 hg19
  go_upto_region 20 with fail
  rw [← HU19.out] at k0 k1 j0 j1 l0 l1 m0 m1 ⊢
  try rw [← HG19.out]
  clear HU19 HG19
  go_wp2_with fail
  refine (C2.out _ BB19.out).mono ?_
  rintro e u20 ⟨v20, rfl, ⟨s20, a20, n20, c20, o20, m20, d20, rfl, q20⟩, h20⟩
  obtain ⟨U20, hU20⟩ : ∃ W, W = u20.alloc (.cells #[.bool s20, .slice a20 n20 c20, .slice o20 m20 d20] 40) := ⟨_, rfl⟩
  obtain ⟨g20, hg20⟩ : ∃ g, g = u20.heap.size := ⟨_, rfl⟩
  have x20 : U20.heap[g20]? = some (.cells #[.bool s20, .slice a20 n20 c20, .slice o20 m20 d20] 40 (0, 0)) := by rw [hU20, hg20]; exact heap_alloc_new _ _
  have e20 : Below u20.heap.size u20 U20 := by rw [hU20]; exact below_new u20 _
  have f20 : Below U19.heap.size U19 U20 := h20.trans (e20.mono h20.size)
  have BB20 : Hid (Below W10.heap.size W10 U20) := Below.trans BB19.out (f20.mono (Below.size BB19.out))
  have XX20 := Lib.hid x20
  have QQ20 : Hid (IsQ q2 23 (.agg #[.bool s20, .slice a20 n20 c20, .slice o20 m20 d20]) U20) := ⟨_, _, _, _, _, _, _, rfl, q20.below e20⟩
  replace XX18 := Lib.hid (carry XX18.out f20)
  replace QQ18 := Lib.hid (IsQ.below QQ18.out f20)
  replace XX19 := Lib.hid (carry XX19.out f20)
  replace QQ19 := Lib.hid (IsQ.below QQ19.out f20)
  clear k0 k1 j0 j1 l0 l1 m0 m1
  obtain ⟨k0, k1⟩ := (KX.out.below BB20.out).box.cells
  obtain ⟨j0, j1⟩ := (KY.out.below BB20.out).box.cells
  obtain ⟨l0, l1⟩ := (KP.out.below BB20.out).box.cells
  obtain ⟨m0, m1⟩ := (KQ.out.below BB20.out).box.cells
  rw [hU20] at k0 k1 j0 j1 l0 l1 m0 m1
  have HU20 := Lib.hid hU20
  have HG20 := Lib.hid hg20
  clear x20 e20 f20 h20 q20 hU20 hg20
  go_upto_region 21 with fail
  rw [← HU20.out] at k0 k1 j0 j1 l0 l1 m0 m1 ⊢
  try rw [← HG20.out]
  clear HU20 HG20
  go_wp2_with fail
  refine (R2.out _ BB20.out).mono ?_
  rintro e u21 ⟨v21, rfl, ⟨s21, a21, n21, c21, o21, m21, d21, rfl, q21⟩, h21⟩
  obtain ⟨U21, hU21⟩ : ∃ W, W = u21.alloc (.cells #[.bool s21, .slice a21 n21 c21, .slice o21 m21 d21] 40) := ⟨_, rfl⟩
  obtain ⟨g21, hg21⟩ : ∃ g, g = u21.heap.size := ⟨_, rfl⟩
  have x21 : U21.heap[g21]? = some (.cells #[.bool s21, .slice a21 n21 c21, .slice o21 m21 d21] 40 (0, 0)) := by rw [hU21, hg21]; exact heap_alloc_new _ _
  have e21 : Below u21.heap.size u21 U21 := by rw [hU21]; exact below_new u21 _
  have f21 : Below U20.heap.size U20 U21 := h21.trans (e21.mono h21.size)
  have BB21 : Hid (Below W10.heap.size W10 U21) := Below.trans BB20.out (f21.mono (Below.size BB20.out))
  have XX21 := Lib.hid x21
  have QQ21 : Hid (IsQ q2 23 (.agg #[.bool s21, .slice a21 n21 c21, .slice o21 m21 d21]) U21) := ⟨_, _, _, _, _, _, _, rfl, q21.below e21⟩
  replace XX18 := Lib.hid (carry XX18.out f21)
  replace QQ18 := Lib.hid (IsQ.below QQ18.out f21)
  replace XX19 := Lib.hid (carry XX19.out f21)
  replace QQ19 := Lib.hid (IsQ.below QQ19.out f21)
  replace XX20 := Lib.hid (carry XX20.out f21)
  replace QQ20 := Lib.hid (IsQ.below QQ20.out f21)
  clear k0 k1 j0 j1 l0 l1 m0 m1
  obtain ⟨k0, k1⟩ := (KX.out.below BB21.out).box.cells
  obtain ⟨j0, j1⟩ := (KY.out.below BB21.out).box.cells
  obtain ⟨l0, l1⟩ := (KP.out.below BB21.out).box.cells
  obtain ⟨m0, m1⟩ := (KQ.out.below BB21.out).box.cells
  rw [hU21] at k0 k1 j0 j1 l0 l1 m0 m1
  have HU21 := Lib.hid hU21
  have HG21 := Lib.hid hg21
  clear x21 e21 f21 h21 q21 hU21 hg21
  go_upto_region 22 with fail
  rw [← HU21.out] at k0 k1 j0 j1 l0 l1 m0 m1 ⊢
  try rw [← HG21.out]
  clear HU21 HG21
  go_wp2_with fail
  refine (C3.out _ BB21.out).mono ?_
  rintro e u22 ⟨v22, rfl, ⟨s22, a22, n22, c22, o22, m22, d22, rfl, q22⟩, h22⟩
  obtain ⟨U22, hU22⟩ : ∃ W, W = u22.alloc (.cells #[.bool s22, .slice a22 n22 c22, .slice o22 m22 d22] 40) := ⟨_, rfl⟩
  obtain ⟨g22, hg22⟩ : ∃ g, g = u22.heap.size := ⟨_, rfl⟩
  have x22 : U22.heap[g22]? = some (.cells #[.bool s22, .slice a22 n22 c22, .slice o22 m22 d22] 40 (0, 0)) := by rw [hU22, hg22]; exact heap_alloc_new _ _
  have e22 : Below u22.heap.size u22 U22 := by rw [hU22]; exact below_new u22 _
  have f22 : Below U21.heap.size U21 U22 := h22.trans (e22.mono h22.size)
  have BB22 : Hid (Below W10.heap.size W10 U22) := Below.trans BB21.out (f22.mono (Below.size BB21.out))
  have XX22 := Lib.hid x22
  have QQ22 : Hid (IsQ q3 11 (.agg #[.bool s22, .slice a22 n22 c22, .slice o22 m22 d22]) U22) := ⟨_, _, _, _, _, _, _, rfl, q22.below e22⟩
  replace XX18 := Lib.hid (carry XX18.out f22)
  replace QQ18 := Lib.hid (IsQ.below QQ18.out f22)
  replace XX19 := Lib.hid (carry XX19.out f22)
  replace QQ19 := Lib.hid (IsQ.below QQ19.out f22)
  replace XX20 := Lib.hid (carry XX20.out f22)
  replace QQ20 := Lib.hid (IsQ.below QQ20.out f22)
  replace XX21 := Lib.hid (carry XX21.out f22)
  replace QQ21 := Lib.hid (IsQ.below QQ21.out f22)
  clear k0 k1 j0 j1 l0 l1 m0 m1
  obtain ⟨k0, k1⟩ := (KX.out.below BB22.out).box.cells
  obtain ⟨j0, j1⟩ := (KY.out.below BB22.out).box.cells
  obtain ⟨l0, l1⟩ := (KP.out.below BB22.out).box.cells
  obtain ⟨m0, m1⟩ := (KQ.out.below BB22.out).box.cells
  rw [hU22] at k0 k1 j0 j1 l0 l1 m0 m1
  have HU22 := Lib.hid hU22
  have HG22 := Lib.hid hg22
  clear x22 e22 f22 h22 q22 hU22 hg22
  go_upto_region 23 with fail
  rw [← HU22.out] at k0 k1 j0 j1 l0 l1 m0 m1 ⊢
  try rw [← HG22.out]
  clear HU22 HG22
  go_wp2_with fail
  refine (R3.out _ BB22.out).mono ?_
  rintro e u23 ⟨v23, rfl, ⟨s23, a23, n23, c23, o23, m23, d23, rfl, q23⟩, h23⟩
  obtain ⟨U23, hU23⟩ : ∃ W, W = u23.alloc (.cells #[.bool s23, .slice a23 n23 c23, .slice o23 m23 d23] 40) := ⟨_, rfl⟩
  obtain ⟨g23, hg23⟩ : ∃ g, g = u23.heap.size := ⟨_, rfl⟩
  have x23 : U23.heap[g23]? = some (.cells #[.bool s23, .slice a23 n23 c23, .slice o23 m23 d23] 40 (0, 0)) := by rw [hU23, hg23]; exact heap_alloc_new _ _
  have e23 : Below u23.heap.size u23 U23 := by rw [hU23]; exact below_new u23 _
  have f23 : Below U22.heap.size U22 U23 := h23.trans (e23.mono h23.size)
  have BB23 : Hid (Below W10.heap.size W10 U23) := Below.trans BB22.out (f23.mono (Below.size BB22.out))
  have XX23 := Lib.hid x23
  have QQ23 : Hid (IsQ q3 11 (.agg #[.bool s23, .slice a23 n23 c23, .slice o23 m23 d23]) U23) := ⟨_, _, _, _, _, _, _, rfl, q23.below e23⟩
  replace XX18 := Lib.hid (carry XX18.out f23)
  replace QQ18 := Lib.hid (IsQ.below QQ18.out f23)
  replace XX19 := Lib.hid (carry XX19.out f23)
  replace QQ19 := Lib.hid (IsQ.below QQ19.out f23)
  replace XX20 := Lib.hid (carry XX20.out f23)
  replace QQ20 := Lib.hid (IsQ.below QQ20.out f23)
  replace XX21 := Lib.hid (carry XX21.out f23)
  replace QQ21 := Lib.hid (IsQ.below QQ21.out f23)
  replace XX22 := Lib.hid (carry XX22.out f23)
  replace QQ22 := Lib.hid (IsQ.below QQ22.out f23)
  clear k0 k1 j0 j1 l0 l1 m0 m1
  obtain ⟨k0, k1⟩ := (KX.out.below BB23.out).box.cells
  obtain ⟨j0, j1⟩ := (KY.out.below BB23.out).box.cells
  obtain ⟨l0, l1⟩ := (KP.out.below BB23.out).box.cells
  obtain ⟨m0, m1⟩ := (KQ.out.below BB23.out).box.cells
  rw [hU23] at k0 k1 j0 j1 l0 l1 m0 m1
  have HU23 := Lib.hid hU23
  have HG23 := Lib.hid hg23
  clear x23 e23 f23 h23 q23 hU23 hg23
  go_upto_region 24 with fail
  rw [← HU23.out] at k0 k1 j0 j1 l0 l1 m0 m1 ⊢
  try rw [← HG23.out]
  clear HU23 HG23
  go_wp2_with fail
  refine (C4.out _ BB23.out).mono ?_
  rintro e u24 ⟨v24, rfl, ⟨s24, a24, n24, c24, o24, m24, d24, rfl, q24⟩, h24⟩
  obtain ⟨U24, hU24⟩ : ∃ W, W = u24.alloc (.cells #[.bool s24, .slice a24 n24 c24, .slice o24 m24 d24] 40) := ⟨_, rfl⟩
  obtain ⟨g24, hg24⟩ : ∃ g, g = u24.heap.size := ⟨_, rfl⟩
  have x24 : U24.heap[g24]? = some (.cells #[.bool s24, .slice a24 n24 c24, .slice o24 m24 d24] 40 (0, 0)) := by rw [hU24, hg24]; exact heap_alloc_new _ _
  have e24 : Below u24.heap.size u24 U24 := by rw [hU24]; exact below_new u24 _
  have f24 : Below U23.heap.size U23 U24 := h24.trans (e24.mono h24.size)
  have BB24 : Hid (Below W10.heap.size W10 U24) := Below.trans BB23.out (f24.mono (Below.size BB23.out))
  have XX24 := Lib.hid x24
  have QQ24 : Hid (IsQ q4 23 (.agg #[.bool s24, .slice a24 n24 c24, .slice o24 m24 d24]) U24) := ⟨_, _, _, _, _, _, _, rfl, q24.below e24⟩
  replace XX18 := Lib.hid (carry XX18.out f24)
  replace QQ18 := Lib.hid (IsQ.below QQ18.out f24)
  replace XX19 := Lib.hid (carry XX19.out f24)
  replace QQ19 := Lib.hid (IsQ.below QQ19.out f24)
  replace XX20 := Lib.hid (carry XX20.out f24)
  replace QQ20 := Lib.hid (IsQ.below QQ20.out f24)
  replace XX21 := Lib.hid (carry XX21.out f24)
  replace QQ21 := Lib.hid (IsQ.below QQ21.out f24)
  replace XX22 := Lib.hid (carry XX22.out f24)
  replace QQ22 := Lib.hid (IsQ.below QQ22.out f24)
  replace XX23 := Lib.hid (carry XX23.out f24)
  replace QQ23 := Lib.hid (IsQ.below QQ23.out f24)
  clear k0 k1 j0 j1 l0 l1 m0 m1
  obtain ⟨k0, k1⟩ := (KX.out.below BB24.out).box.cells
  obtain ⟨j0, j1⟩ := (KY.out.below BB24.out).box.cells
  obtain ⟨l0, l1⟩ := (KP.out.below BB24.out).box.cells
  obtain ⟨m0, m1⟩ := (KQ.out.below BB24.out).box.cells
  rw [hU24] at k0 k1 j0 j1 l0 l1 m0 m1
  have HU24 := Lib.hid hU24
  have HG24 := Lib.hid hg24
  clear x24 e24 f24 h24 q24 hU24 hg24
  go_upto_region 25 with fail
  rw [← HU24.out] at k0 k1 j0 j1 l0 l1 m0 m1 ⊢
  try rw [← HG24.out]
  clear HU24 HG24
  go_wp2_with fail
  refine (R4.out _ BB24.out).mono ?_
  rintro e u25 ⟨v25, rfl, ⟨s25, a25, n25, c25, o25, m25, d25, rfl, q25⟩, h25⟩
  obtain ⟨U25, hU25⟩ : ∃ W, W = u25.alloc (.cells #[.bool s25, .slice a25 n25 c25, .slice o25 m25 d25] 40) := ⟨_, rfl⟩
  obtain ⟨g25, hg25⟩ : ∃ g, g = u25.heap.size := ⟨_, rfl⟩
  have x25 : U25.heap[g25]? = some (.cells #[.bool s25, .slice a25 n25 c25, .slice o25 m25 d25] 40 (0, 0)) := by rw [hU25, hg25]; exact heap_alloc_new _ _
  have e25 : Below u25.heap.size u25 U25 := by rw [hU25]; exact below_new u25 _
  have f25 : Below U24.heap.size U24 U25 := h25.trans (e25.mono h25.size)
  have BB25 : Hid (Below W10.heap.size W10 U25) := Below.trans BB24.out (f25.mono (Below.size BB24.out))
  have XX25 := Lib.hid x25
  have QQ25 : Hid (IsQ q4 23 (.agg #[.bool s25, .slice a25 n25 c25, .slice o25 m25 d25]) U25) := ⟨_, _, _, _, _, _, _, rfl, q25.below e25⟩
  replace XX18 := Lib.hid (carry XX18.out f25)
  replace QQ18 := Lib.hid (IsQ.below QQ18.out f25)
  replace XX19 := Lib.hid (carry XX19.out f25)
  replace QQ19 := Lib.hid (IsQ.below QQ19.out f25)
  replace XX20 := Lib.hid (carry XX20.out f25)
  replace QQ20 := Lib.hid (IsQ.below QQ20.out f25)
  replace XX21 := Lib.hid (carry XX21.out f25)
  replace QQ21 := Lib.hid (IsQ.below QQ21.out f25)
  replace XX22 := Lib.hid (carry XX22.out f25)
  replace QQ22 := Lib.hid (IsQ.below QQ22.out f25)
  replace XX23 := Lib.hid (carry XX23.out f25)
  replace QQ23 := Lib.hid (IsQ.below QQ23.out f25)
  replace XX24 := Lib.hid (carry XX24.out f25)
  replace QQ24 := Lib.hid (IsQ.below QQ24.out f25)
  clear k0 k1 j0 j1 l0 l1 m0 m1
  obtain ⟨k0, k1⟩ := (KX.out.below BB25.out).box.cells
  obtain ⟨j0, j1⟩ := (KY.out.below BB25.out).box.cells
  obtain ⟨l0, l1⟩ := (KP.out.below BB25.out).box.cells
  obtain ⟨m0, m1⟩ := (KQ.out.below BB25.out).box.cells
  rw [hU25] at k0 k1 j0 j1 l0 l1 m0 m1
  have HU25 := Lib.hid hU25
  have HG25 := Lib.hid hg25
  clear x25 e25 f25 h25 q25 hU25 hg25
  go_upto_region 26 with fail
  rw [← HU25.out] at k0 k1 j0 j1 l0 l1 m0 m1 ⊢
  try rw [← HG25.out]
  clear HU25 HG25
  clear k0 k1 j0 j1 l0 l1 m0 m1
  obtain ⟨p18, p18', p18'', -, -, -⟩ := at_block XX18.out
  obtain ⟨p19, p19', p19'', -, -, -⟩ := at_block XX19.out
  obtain ⟨p20, p20', p20'', -, -, -⟩ := at_block XX20.out
  obtain ⟨p21, p21', p21'', -, -, -⟩ := at_block XX21.out
  obtain ⟨p22, p22', p22'', -, -, -⟩ := at_block XX22.out
  obtain ⟨p23, p23', p23'', -, -, -⟩ := at_block XX23.out
  obtain ⟨p24, p24', p24'', -, -, -⟩ := at_block XX24.out
  obtain ⟨p25, p25', p25'', -, -, -⟩ := at_block XX25.out
  go_wp2_with fail
  refine (same_z QQ18.out QQ19.out rfl).mono ?_
  rintro e V0 ⟨rfl, v0⟩
  replace XX20 := Lib.hid (carry XX20.out v0)
  replace QQ20 := Lib.hid (IsQ.below QQ20.out v0)
  replace XX21 := Lib.hid (carry XX21.out v0)
  replace QQ21 := Lib.hid (IsQ.below QQ21.out v0)
  replace XX22 := Lib.hid (carry XX22.out v0)
  replace QQ22 := Lib.hid (IsQ.below QQ22.out v0)
  replace XX23 := Lib.hid (carry XX23.out v0)
  replace QQ23 := Lib.hid (IsQ.below QQ23.out v0)
  replace XX24 := Lib.hid (carry XX24.out v0)
  replace QQ24 := Lib.hid (IsQ.below QQ24.out v0)
  replace XX25 := Lib.hid (carry XX25.out v0)
  replace QQ25 := Lib.hid (IsQ.below QQ25.out v0)
  have BV0 : Hid (Below W10.heap.size W10 V0) := Below.trans BB25.out (v0.mono (Below.size BB25.out))
  clear v0
  clear p18 p18' p18'' p19 p19' p19'' p20 p20' p20'' p21 p21' p21'' p22 p22' p22'' p23 p23' p23'' p24 p24' p24'' p25 p25' p25''
  obtain ⟨p20, p20', p20'', -, -, -⟩ := at_block XX20.out
  obtain ⟨p21, p21', p21'', -, -, -⟩ := at_block XX21.out
  obtain ⟨p22, p22', p22'', -, -, -⟩ := at_block XX22.out
  obtain ⟨p23, p23', p23'', -, -, -⟩ := at_block XX23.out
  obtain ⟨p24, p24', p24'', -, -, -⟩ := at_block XX24.out
  obtain ⟨p25, p25', p25'', -, -, -⟩ := at_block XX25.out
  go_wp2_with fail
  refine (same_z QQ20.out QQ21.out rfl).mono ?_
  rintro e V1 ⟨rfl, v1⟩
  replace XX22 := Lib.hid (carry XX22.out v1)
  replace QQ22 := Lib.hid (IsQ.below QQ22.out v1)
  replace XX23 := Lib.hid (carry XX23.out v1)
  replace QQ23 := Lib.hid (IsQ.below QQ23.out v1)
  replace XX24 := Lib.hid (carry XX24.out v1)
  replace QQ24 := Lib.hid (IsQ.below QQ24.out v1)
  replace XX25 := Lib.hid (carry XX25.out v1)
  replace QQ25 := Lib.hid (IsQ.below QQ25.out v1)
  have BV1 : Hid (Below W10.heap.size W10 V1) := Below.trans BV0.out (v1.mono (Below.size BV0.out))
  clear v1
  clear p20 p20' p20'' p21 p21' p21'' p22 p22' p22'' p23 p23' p23'' p24 p24' p24'' p25 p25' p25''
  obtain ⟨p22, p22', p22'', -, -, -⟩ := at_block XX22.out
  obtain ⟨p23, p23', p23'', -, -, -⟩ := at_block XX23.out
  obtain ⟨p24, p24', p24'', -, -, -⟩ := at_block XX24.out
  obtain ⟨p25, p25', p25'', -, -, -⟩ := at_block XX25.out
  go_wp2_with fail
  refine (same_z QQ22.out QQ23.out rfl).mono ?_
  rintro e V2 ⟨rfl, v2⟩
  replace XX24 := Lib.hid (carry XX24.out v2)
  replace QQ24 := Lib.hid (IsQ.below QQ24.out v2)
  replace XX25 := Lib.hid (carry XX25.out v2)
  replace QQ25 := Lib.hid (IsQ.below QQ25.out v2)
  have BV2 : Hid (Below W10.heap.size W10 V2) := Below.trans BV1.out (v2.mono (Below.size BV1.out))
  clear v2
  clear p22 p22' p22'' p23 p23' p23'' p24 p24' p24'' p25 p25' p25''
  obtain ⟨p24, p24', p24'', -, -, -⟩ := at_block XX24.out
  obtain ⟨p25, p25', p25'', -, -, -⟩ := at_block XX25.out
  go_wp2_with fail
  refine (same_z QQ24.out QQ25.out rfl).mono ?_
  rintro e V3 ⟨rfl, v3⟩
  have BV3 : Hid (Below W10.heap.size W10 V3) := Below.trans BV2.out (v3.mono (Below.size BV2.out))
  clear v3
  clear p24 p24' p24'' p25 p25' p25''
  go_wp2_with fail
  refine (awake_v _).mono ?_
  rintro e V4 ⟨rfl, v4⟩
  have FIN : Hid (Below w.heap.size w V4) := (B10.out.trans ((BV3.out).mono B10.out.size)).trans (v4.mono (Nat.le_trans B10.out.size (Below.size BV3.out)))
  clear v4
  go_wp2_with fail
  go_ret
  exact ⟨rfl, FIN.out⟩
end Go.Proofs.Ytdcnkebcpaelpaa.T14
