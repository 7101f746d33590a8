import Derived.Test.YtghdnnfohllcbaaInts10
import Derived.Laws.AppendOwn
import Derived.Laws.OwnMore
import Derived.BigQuiet
import Derived.Test.YtghdnnfohllcbaaSmpAw
/- Layer 10: panels that rotate: which are in the sample, and how often. -/
namespace Go.Proofs.Ytghdnnfohllcbaa.S10

/-- the panels in the sample q periods after the first, of N panels that stay T periods, with a step of S -/
def pin (N S T q i : Nat) : Bool := decide ((q + N * S - i * S) % (N * S) < T)
def pan (N S T q : Nat) : List Nat := (List.range N).filter (pin N S T q)
def cnt (N S T m i : Nat) : Nat := (List.range m).countP (fun q => pin N S T q i)
def chkOne (N S K : Nat) : Bool := ((List.range (N * S)).all fun q => (pan N S (K * S) q).length == K && (pan N S (K * S) (q + N * S) == pan N S (K * S) q) && ((List.range N).all fun i => (pan N S (K * S) q).count i == bif pin N S (K * S) q i then 1 else 0)) && ((List.range N).all fun i => cnt N S (K * S) (N * S) i == K * S)
def chkAll : Bool := (List.range 6).all fun n => (List.range 4).all fun s => (List.range (n + 1)).all fun k => chkOne (n + 1) (s + 1) (k + 1)
theorem chk_all : chkAll = true := by decide +kernel
theorem chk_one {N S K : Nat} (hN : 1 ≤ N) (hN2 : N ≤ 6) (hS : 1 ≤ S) (hS2 : S ≤ 4) (hK : 1 ≤ K) (hK2 : K ≤ N) : chkOne N S K = true := by
  have h := chk_all
  unfold chkAll at h
  rw [List.all_eq_true] at h
  have h1 := h (N - 1) (List.mem_range.2 (by omega))
  rw [List.all_eq_true] at h1
  have h2 := h1 (S - 1) (List.mem_range.2 (by omega))
  rw [List.all_eq_true] at h2
  have h3 := h2 (K - 1) (List.mem_range.2 (by omega))
  rwa [show N - 1 + 1 = N by omega, show S - 1 + 1 = S by omega, show K - 1 + 1 = K by omega] at h3
theorem chk_parts {N S K : Nat} (h : chkOne N S K = true) : (∀ q, q < N * S → (pan N S (K * S) q).length = K ∧ pan N S (K * S) (q + N * S) = pan N S (K * S) q ∧ ∀ i, i < N → (pan N S (K * S) q).count i = bif pin N S (K * S) q i then 1 else 0) ∧ ∀ i, i < N → cnt N S (K * S) (N * S) i = K * S := by
  unfold chkOne at h
  rw [Bool.and_eq_true, List.all_eq_true, List.all_eq_true] at h
  refine ⟨fun q hq => ?_, fun i hi => ?_⟩
  · have h1 := h.1 q (List.mem_range.2 hq)
    rw [Bool.and_eq_true, Bool.and_eq_true, List.all_eq_true] at h1
    exact ⟨by simpa using h1.1.1, by simpa using h1.1.2, fun i hi => by simpa using h1.2 i (List.mem_range.2 hi)⟩
  · simpa using h.2 i (List.mem_range.2 hi)
theorem cnt_succ (N S T m i : Nat) : cnt N S T (m + 1) i = cnt N S T m i + bif pin N S T m i then 1 else 0 := by
  unfold cnt
  rw [List.range_succ, List.countP_append]
  cases h : pin N S T m i <;> simp [h]
theorem pan_take (N S T q i : Nat) : ((List.range (i + 1)).filter (pin N S T q)) = ((List.range i).filter (pin N S T q)) ++ (bif pin N S T q i then [i] else []) := by
  rw [List.range_succ, List.filter_append]
  cases h : pin N S T q i <;> simp [h]
theorem pan_mem {N S T q i : Nat} (h : i ∈ pan N S T q) : i < N := List.mem_range.1 (List.mem_filter.1 h).1
theorem take_count (l : List Nat) (j i : Nat) (hj : j < l.length) : (l.take (j + 1)).count i = (l.take j).count i + if l[j] = i then 1 else 0 := by
  rw [List.take_succ_eq_append_getElem hj, List.count_append]
  by_cases h : l[j] = i <;> simp [h]
/-- the counts when m periods and j of the next one's panels have been counted -/
def ctn (N S T m j : Nat) : List Int := (List.range N).map fun i => ((cnt N S T m i + ((pan N S T m).take j).count i : Nat) : Int)
theorem ctn_length (N S T m j : Nat) : (ctn N S T m j).length = N := by simp [ctn]
theorem ctn_get {N S T m j i : Nat} (hi : i < N) : (ctn N S T m j)[i]? = some ((cnt N S T m i + ((pan N S T m).take j).count i : Nat) : Int) := by simp [ctn, hi]
theorem ctn_step {N S T m j : Nat} (hj : j < (pan N S T m).length) : (ctn N S T m j).set ((pan N S T m)[j]) (((cnt N S T m (pan N S T m)[j] + ((pan N S T m).take j).count (pan N S T m)[j] : Nat) : Int) + 1) = ctn N S T m (j + 1) := by
  have hp : (pan N S T m)[j] < N := pan_mem (List.getElem_mem hj)
  apply List.ext_getElem (by simp [ctn])
  intro i h1 h2
  have hi : i < N := by simpa [ctn] using h2
  rw [List.getElem_set]
  have e := take_count (pan N S T m) j i hj
  by_cases h : (pan N S T m)[j] = i
  · rw [if_pos h] at e ⊢
    simp only [ctn, List.getElem_map, List.getElem_range]
    rw [e, h]
    omega
  · rw [if_neg h] at e ⊢
    simp only [ctn, List.getElem_map, List.getElem_range]
    rw [e]
    omega
theorem ctn_next {N S K m : Nat} (h : chkOne N S K = true) (hm : m < N * S) : ctn N S (K * S) m K = ctn N S (K * S) (m + 1) 0 := by
  obtain ⟨h1, _, h3⟩ := (chk_parts h).1 m hm
  unfold ctn
  apply List.map_congr_left
  intro i hi
  have hi' : i < N := List.mem_range.1 hi
  rw [cnt_succ, ← h3 i hi', List.take_of_length_le (by omega)]
  simp
theorem ctn_end {N S K : Nat} (h : chkOne N S K = true) {i : Nat} (hi : i < N) : (ctn N S (K * S) (N * S) 0)[i]? = some ((K * S : Nat) : Int) := by
  rw [ctn_get hi, (chk_parts h).2 i hi]
  simp
theorem ctn_zero (N S T : Nat) : ctn N S T 0 0 = List.replicate N 0 := by
  apply List.ext_getElem (by simp [ctn])
  intro i h1 h2
  simp [ctn, cnt]
end Go.Proofs.Ytghdnnfohllcbaa.S10
/- Layer 10: ValidateRotation and Panels of valid rotations. -/
namespace Go.Proofs.Ytghdnnfohllcbaa.S10
open Go.RowKit Go.Sort C6

theorem infoI : (Try.prog.info? 3).map (fun i => (i.zero, i.size, i.bytes)) = some (some (.int .i64 0), 1, 8) := by kernel_rfl
theorem C6v.row_n {w : World} {base n size : Nat} {e : TypeId} {v : Value} {xs : List Value} (h : w.ownsRow base e size v n xs) : ∃ ao cap, v = .slice ao n cap := by
  rcases h.2 with ⟨rfl, h0⟩ | ⟨g, cap, cur, rfl, _⟩
  · exact ⟨none, 0, by rw [h0]⟩
  · exact ⟨_, _, rfl⟩
/-- a valid rotation -/
structure Rot (N T S F : Nat) : Prop where
  n1 : 1 ≤ N
  n2 : N ≤ 24
  s1 : 1 ≤ S
  s2 : S ≤ 12
  t1 : 1 ≤ T
  t2 : T ≤ N * S
  f2 : F ≤ 5999
  c2 : N * S ≤ 288
def rotv (N T S F : Nat) : Value := .agg #[.int .i64 (N : Int), .int .i64 (T : Int), .int .i64 (S : Int), .int .i64 (F : Int)]
def Rb (w : World) (g N T S F : Nat) : Prop := w.heap[g]? = some (.cells #[.int .i64 (N : Int), .int .i64 (T : Int), .int .i64 (S : Int), .int .i64 (F : Int)] 62 (0, 0))
theorem Rb.cells {w : World} {g N T S F : Nat} (h : Rb w g N T S F) : w.cell? ⟨g, 0, none⟩ = some (.int .i64 (N : Int)) ∧ w.cell? ⟨g, 1, none⟩ = some (.int .i64 (T : Int)) ∧ w.cell? ⟨g, 2, none⟩ = some (.int .i64 (S : Int)) ∧ w.cell? ⟨g, 3, none⟩ = some (.int .i64 (F : Int)) := by
  unfold Rb at h
  refine ⟨?_, ?_, ?_, ?_⟩ <;> simp [World.cell?, h]
theorem Rb.lt {w : World} {g N T S F : Nat} (h : Rb w g N T S F) : g < w.heap.size := (Array.getElem?_eq_some_iff.1 h).1
theorem Rb.below {w w' : World} {g N T S F : Nat} (h : Rb w g N T S F) (b : Below w.heap.size w w') : Rb w' g N T S F := (b.block g h.lt).trans h
theorem Rb.keepB {w w' : World} {B g N T S F : Nat} (h : Rb w g N T S F) (b : Below B w w') (hg : g < B) : Rb w' g N T S F := (b.block g hg).trans h
theorem Rb.new (w : World) (N T S F : Nat) : Rb (w.alloc (.cells #[.int .i64 (N : Int), .int .i64 (T : Int), .int .i64 (S : Int), .int .i64 (F : Int)] 62)) w.heap.size N T S F := by
  unfold Rb World.alloc
  simp

set_option maxHeartbeats 4000000 in
set_option maxRecDepth 100000 in
theorem Validate_rot (N T S F : Nat) (h : Rot N T S F) (w : World) : Calls Try.prog 33 #[.agg #[.int .i64 (N : Int), .int .i64 (T : Int), .int .i64 (S : Int), .int .i64 (F : Int)]] w fun e w' => e = .returned (.int .i64 0) ∧ Below w.heap.size w w' := by
  obtain ⟨n1, n2, s1, s2, t1, t2, f2, c2⟩ := h
  obtain ⟨C, hC⟩ : ∃ C, C = N * S := ⟨_, rfl⟩
  have hCi : (N : Int) * (S : Int) = (C : Int) := by rw [hC]; exact (Int.natCast_mul N S).symm
  rw [← hC] at t2 c2
  clear hC
  have a1 : decide ((N : Int) < 1) = false := by simp; omega
  have a2 : decide (24 < (N : Int)) = false := by simp; omega
  have a3 : decide ((S : Int) < 1) = false := by simp; omega
  have a4 : decide (12 < (S : Int)) = false := by simp; omega
  have a5 : decide ((T : Int) < 1) = false := by simp; omega
  have a6 : decide ((C : Int) < (T : Int)) = false := by simp; omega
  have a7 : decide ((F : Int) < 0) = false := by simp
  have a8 : decide (5999 < (F : Int)) = false := by simp; omega
  have b1 : ¬ (N : Int) < 1 := by omega
  have b2 : ¬ 24 < (N : Int) := by omega
  have b3 : ¬ (S : Int) < 1 := by omega
  have b4 : ¬ 12 < (S : Int) := by omega
  have b5 : ¬ (T : Int) < 1 := by omega
  have b6 : ¬ (C : Int) < (T : Int) := by omega
  have b7 : ¬ (F : Int) < 0 := by omega
  have b8 : ¬ 5999 < (F : Int) := by omega
  have hw : IntKind.i64.wrap (C : Int) = (C : Int) := IntWalk.i64_in _ (by omega)
  have hb := below_new w (.cells #[.int .i64 (N : Int), .int .i64 (T : Int), .int .i64 (S : Int), .int .i64 (F : Int)] 62)
  have HB := Lib.hid hb
  clear hb
  go_enter Try.func33, Try.ntmps33
  go_wp2_with fail
  go_ret
  exact ⟨rfl, HB.out⟩

/-- the panels as cells -/
def zl (l : List Nat) : List Value := l.map fun i : Nat => Value.int .i64 ((i : Nat) : Int)
theorem zl_len (l : List Nat) : (zl l).length = l.length := by simp [zl]
theorem zl_snoc (l : List Nat) (i : Nat) : zl (l ++ [i]) = zl l ++ [.int .i64 (i : Int)] := by simp [zl]
theorem zl_intz (l : List Nat) : zl l = intz (l.map fun i : Nat => ((i : Nat) : Int)) := by simp [zl, intz]
def PanPost (w : World) (ns : List Nat) (e : Ending) (w' : World) : Prop := ∃ (a : Option Addr) (n c : Nat), e = .returned (.slice a n c) ∧ n = ns.length ∧ w'.ownsRow w.heap.size 3 1 (.slice a n c) n (zl ns) ∧ Below w.heap.size w w'

set_option maxHeartbeats 8000000 in
set_option maxRecDepth 100000 in
theorem Panels_v (N T S F q P : Nat) (h : Rot N T S F) (hP : P = F + q) (hP2 : P ≤ 5999) (w : World) : Calls Try.prog 35 #[.agg #[.int .i64 (N : Int), .int .i64 (T : Int), .int .i64 (S : Int), .int .i64 (F : Int)], .int .i64 (P : Int)] w (PanPost w (pan N S T q)) := by
  obtain ⟨i0, hi, hz0, hz1, hz2⟩ := info_parts infoI
  obtain ⟨W1, hW1⟩ : ∃ W, W = w.alloc (.cells #[.int .i64 (N : Int), .int .i64 (T : Int), .int .i64 (S : Int), .int .i64 (F : Int)] 62) := ⟨_, rfl⟩
  obtain ⟨g, hg⟩ : ∃ g, g = w.heap.size := ⟨_, rfl⟩
  have x1 : Rb W1 g N T S F := by rw [hW1, hg]; exact Rb.new _ _ _ _ _
  have b1 : Below w.heap.size w W1 := by rw [hW1]; exact below_new _ _
  have s1 : W1.heap.size = g + 1 := by rw [hW1, hg]; exact World.size_alloc _ _
  have VR := Lib.hid (Validate_rot N T S F h W1)
  obtain ⟨n1, n2, s1', s2, t1, t2, f2, c2⟩ := h
  obtain ⟨C, hC⟩ : ∃ C, C = N * S := ⟨_, rfl⟩
  have hCi : (N : Int) * (S : Int) = (C : Int) := by rw [hC]; exact (Int.natCast_mul N S).symm
  have HC := Lib.hid hC
  have hC1 : 1 ≤ C := by rw [hC]; exact Nat.mul_pos n1 s1'
  rw [← hC] at t2 c2
  have HX := Lib.hid x1
  have HB1 := Lib.hid b1
  have HS := Lib.hid s1
  have HG := Lib.hid hg
  have p1 : ¬ (P : Int) < (F : Int) := by omega
  have p2 : ¬ 5999 < (P : Int) := by omega
  have p1d : decide ((P : Int) < (F : Int)) = false := by simp; omega
  have p1n : decide (P < F) = false := by simp; omega
  have p2n : decide (5999 < P) = false := by simp; omega
  have p2d : decide (5999 < (P : Int)) = false := by simp; omega
  obtain ⟨k0, k1, k2, k3⟩ := x1.cells
  have HP0 := Lib.hid hP
  have HP5 := Lib.hid hP2
  clear x1 b1 s1 hC hP hP2
  go_enter Try.func35, Try.ntmps35
  go_wp2_with fail
  rw [← hW1]
  try rw [← hg]
  clear hW1 hg
  refine VR.out.mono ?_; rintro e w2 ⟨rfl, b2⟩
  have X2 := Lib.hid (HX.out.below b2)
  have HB2 : Hid (Below w.heap.size w w2) := HB1.out.trans (b2.mono HB1.out.size)
  have hs2 : g + 1 ≤ w2.heap.size := X2.out.lt
  clear k0 k1 k2 k3 b2
  obtain ⟨k0, k1, k2, k3⟩ := X2.out.cells
  have hwC : IntKind.i64.wrap (C : Int) = (C : Int) := IntWalk.i64_in _ (by omega)
  go_wp2_with fail
  clear k0 k1 k2 k3 p1 p2 p1d p2d p1n p2n
  go_loopw [28, 6] (fun s28 s6 wr => ∃ (i n : Nat) (v : Value), i ≤ N ∧ s28 = .int .i64 (i : Int) ∧ v = s6 ∧ Hid (n = ((List.range i).filter (pin N S T q)).length) ∧ Hid (wr.ownsRow (g + 1) 3 1 v n (zl ((List.range i).filter (pin N S T q)))) ∧ Hid (Below (g + 1) w2 wr)) (fun s28 _ _ => N - (intOf s28).toNat)
  case atStart => exact ⟨0, 0, _, by omega, rfl, rfl, rfl, World.ownsRow_nil _ _ _ _, Below.refl _ _⟩
  case round =>
    obtain ⟨i, n, v, hiN, rfl, rfl, hn, hown, hbl⟩ := hrel
    have hxr : Rb wr g N T S F := X2.out.keepB hbl.out (Nat.lt_succ_self g)
    have hszr : g + 1 ≤ wr.heap.size := hxr.lt
    obtain ⟨k0, k1, k2, k3⟩ := hxr.cells
    by_cases hlt : i < N
    · have hlt2 : (i : Int) < (N : Int) := by omega
      obtain ⟨m, hm⟩ : ∃ m, m = i * S := ⟨_, rfl⟩
      have hmi : (i : Int) * (S : Int) = (m : Int) := by rw [hm]; exact (Int.natCast_mul i S).symm
      have hmC : m < C := by rw [hm, HC.out]; exact Nat.mul_lt_mul_of_pos_right hlt s1'
      obtain ⟨x, hx⟩ : ∃ x, x = q + C - m := ⟨_, rfl⟩
      obtain ⟨y, hy⟩ : ∃ y, y = x % C := ⟨_, rfl⟩
      have hpin : Hid (pin N S T q i = decide (y < T)) := by unfold pin Hid; rw [hy, hx, HC.out, hm]
      have e1 : (P : Int) - (F : Int) = (q : Int) := by have := HP0.out; omega
      obtain ⟨z, hz⟩ : ∃ z : Int, z = (q : Int) - (m : Int) := ⟨_, rfl⟩
      have e2 : z + (C : Int) = (x : Int) := by omega
      have e3 : Int.tmod (x : Int) (C : Int) = (y : Int) := by rw [hy]; exact (Int.ofNat_tmod x C).symm
      have hC0 : ¬ (C : Int) = 0 := by omega
      have hC0b : ((C : Int) == 0) = false := by simp; omega
      have hq5 : q ≤ 6000 := by have := HP0.out; have := HP5.out; omega
      have w1 : IntKind.i64.wrap (q : Int) = (q : Int) := IntWalk.i64_in _ (by omega)
      have w2' : IntKind.i64.wrap (m : Int) = (m : Int) := IntWalk.i64_in _ (by omega)
      have w3 : IntKind.i64.wrap z = z := IntWalk.i64_in _ (by omega)
      have w4 : IntKind.i64.wrap (x : Int) = (x : Int) := IntWalk.i64_in _ (by omega)
      have w5 : IntKind.i64.wrap (y : Int) = (y : Int) := IntWalk.i64_in _ (by have : y < C := by rw [hy]; exact Nat.mod_lt _ (by omega)
                                                                               omega)
      have hq6 : (q : Int) ≤ 6000 := by omega
      have hm6 : (m : Int) ≤ 288 := by omega
      have hzz : (q : Int) - (m : Int) = z := hz.symm
      have HN3 : Hid (n ≤ 24) := by
        unfold Hid
        rw [hn.out]
        refine Nat.le_trans (List.length_filter_le _ _) ?_
        rw [List.length_range]; omega
      clear hm hx hy hz hxr
      by_cases hyT : y < T
      · have hyd : decide ((y : Int) < (T : Int)) = true := by simp; omega
        have hyT2 : (y : Int) < (T : Int) := by omega
        have HP : Hid (pin N S T q i = true) := by unfold Hid; rw [hpin.out]; exact decide_eq_true hyT
        clear hpin
        have HON := Lib.hid hown.out
        have HF2 : Hid ((List.range (i + 1)).filter (pin N S T q) = (List.range i).filter (pin N S T q) ++ [i]) := by unfold Hid; rw [pan_take, HP.out]; rfl
        go_wp2_with fail
        go_quiet (fail)
        go_wp2_with (at_builtin; refine wpList_append_own _ rfl _ _ 23 rfl (g + 1) 3 i0 (.int .i64 0) 1 8 Try.underlying23 hi hz0 hz1 hz2 rfl (by omega) _ _ _ rfl ((show World.ownsRow _ _ _ _ _ _ _ from HON.out).alloc _) ⟨wr.heap.size, 0, none⟩ 1 1 [.int .i64 (i : Int)] rfl rfl (one_cell _ _ _) (by intro u hu; simp at hu; rcases hu with rfl; rfl) (by unfold maxLen; have := HN3.out; omega) (by have := HN3.out; omega) (by simp; omega) ?_; intro v3 w3 hown3 hgr3 _; obtain ⟨a3, c3, rfl⟩ := C6v.row_n hown3; have HO3 := Lib.hid hown3; have HG3 := Lib.hid hgr3; clear hown3 hgr3)
        have HN4 : Hid (n + 1 = ((List.range (i + 1)).filter (pin N S T q)).length) := by unfold Hid; rw [HF2.out, List.length_append, ← hn.out]; rfl
        have HO4 : Hid (w3.ownsRow (g + 1) 3 1 (.slice a3 (n + 1) c3) (n + 1) (zl ((List.range (i + 1)).filter (pin N S T q)))) := by unfold Hid; rw [HF2.out, zl_snoc]; exact HO3.out
        have HB4 : Hid (Below (g + 1) w2 w3) := by
          have h1 : Below (g + 1) w2 ((wr.alloc (.cells #[.int .i64 (i : Int)] 3)).drew) := (hbl.out.trans ((below_new wr _).mono hszr)).drew
          first
            | exact h1.grown HG3.out (by show g + 1 ≤ (wr.alloc _).heap.size; rw [World.size_alloc]; omega) (fun k e => (HON.out.lt k e).1)
            | exact (hbl.out.trans ((below_new wr _).mono hszr)).grown HG3.out (by rw [World.size_alloc]; omega) (fun k e => (HON.out.lt k e).1)
            | exact ((hbl.out.trans (show Below (g + 1) wr (wr.drewN _) from ⟨rfl, rfl, rfl, Nat.le_refl _, fun _ _ => rfl⟩)).trans ((below_new _ _).mono hszr)).grown HG3.out (by rw [World.size_alloc]; show g + 1 ≤ wr.heap.size + 1; omega) (fun k e => (HON.out.lt k e).1)
        clear HF2
        go_wp2_with fail
        go_roundw
        case rel => exact ⟨i + 1, n + 1, .slice a3 (n + 1) c3, by omega, by go_num, rfl, HN4, HO4, HB4⟩
        case measure => simp [intOf]; omega
      · have hyd : decide ((y : Int) < (T : Int)) = false := by simp; omega
        have hyT2 : ¬ (y : Int) < (T : Int) := by omega
        have HP : Hid (pin N S T q i = false) := by unfold Hid; rw [hpin.out]; exact decide_eq_false hyT
        have HF2 : Hid ((List.range (i + 1)).filter (pin N S T q) = (List.range i).filter (pin N S T q)) := by unfold Hid; rw [pan_take, HP.out]; simp
        clear hpin
        go_wp2_with fail
        go_quiet (fail)
        go_wp2_with fail
        go_roundw
        case rel => exact ⟨i + 1, n, v, by omega, by go_num, rfl, by rw [HF2.out]; exact hn, by rw [HF2.out]; exact (show World.ownsRow _ _ _ _ _ _ _ from hown.out), hbl.out.trans ⟨rfl, rfl, rfl, Nat.le_refl _, fun _ _ => rfl⟩⟩
        case measure => simp [intOf]; omega
    · obtain rfl : i = N := by omega
      have hlt2 : ¬ (i : Int) < (i : Int) := by omega
      obtain ⟨a9, c9, rfl⟩ : ∃ (a : Option Addr) (c : Nat), v = .slice a n c := by
        rcases hown.out.2 with ⟨rfl, h0⟩ | ⟨g', cap, cur, rfl, _⟩
        · exact ⟨none, 0, by rw [h0]⟩
        · exact ⟨_, _, rfl⟩
      have HBF : Hid (Below w.heap.size w wr) := HB2.out.trans (hbl.out.mono (by rw [← HG.out]; omega))
      have HGW : Hid (w.heap.size ≤ g + 1) := by unfold Hid; rw [← HG.out]; omega
      clear hxr
      go_wp2_with fail
      go_ret
      refine ⟨a9, n, c9, rfl, hn.out, ?_, HBF.out⟩
      exact ⟨hown.out.1, hown.out.2.imp id fun ⟨g', cap, cur, hv, h1, h2⟩ => ⟨g', cap, cur, hv, Nat.le_trans HGW.out h1, h2⟩⟩
end Go.Proofs.Ytghdnnfohllcbaa.S10
/- SamplePanels for all inputs: panels that stay for a whole number of steps. -/
namespace Go.Proofs.Ytghdnnfohllcbaa.S10
open Go.RowKit Go.Sort C6

set_option maxHeartbeats 4000000 in
set_option maxRecDepth 100000 in
theorem Panels_before (N T S F : Nat) (p : Int) (h : Rot N T S F) (hp : p < (F : Int)) (w : World) : Calls Try.prog 35 #[.agg #[.int .i64 (N : Int), .int .i64 (T : Int), .int .i64 (S : Int), .int .i64 (F : Int)], .int .i64 p] w fun e w' => e = .returned (.slice none 0 0) ∧ Below w.heap.size w w' := by
  obtain ⟨W1, hW1⟩ : ∃ W, W = w.alloc (.cells #[.int .i64 (N : Int), .int .i64 (T : Int), .int .i64 (S : Int), .int .i64 (F : Int)] 62) := ⟨_, rfl⟩
  obtain ⟨g, hg⟩ : ∃ g, g = w.heap.size := ⟨_, rfl⟩
  have x1 : Rb W1 g N T S F := by rw [hW1, hg]; exact Rb.new _ _ _ _ _
  have b1 : Below w.heap.size w W1 := by rw [hW1]; exact below_new _ _
  have VR := Lib.hid (Validate_rot N T S F h W1)
  have HX := Lib.hid x1
  have HB1 := Lib.hid b1
  have p1d : decide (p < (F : Int)) = true := by simp; omega
  obtain ⟨k0, k1, k2, k3⟩ := x1.cells
  clear x1 b1
  go_enter Try.func35, Try.ntmps35
  go_wp2_with fail
  rw [← hW1]
  try rw [← hg]
  clear hW1 hg
  refine VR.out.mono ?_; rintro e w2 ⟨rfl, b2⟩
  have X2 := Lib.hid (HX.out.below b2)
  have HB2 : Hid (Below w.heap.size w w2) := HB1.out.trans (b2.mono HB1.out.size)
  clear k0 k1 k2 k3 b2
  obtain ⟨k0, k1, k2, k3⟩ := X2.out.cells
  go_wp2_with fail
  go_ret
  exact ⟨rfl, HB2.out⟩

theorem made_zero (N S T : Nat) : (madeCells (Value.int .i64 0).cells (N * 1)).toList = intz (ctn N S T 0 0) := by
  rw [ctn_zero, Nat.mul_one]
  rw [show (Value.int .i64 0).cells = #[Value.int .i64 0] from rfl, toList_madeCells_one]
  simp [intz]
theorem intz_set (l : List Int) (i : Nat) (x : Int) : (intz l).set i (.int .i64 x) = intz (l.set i x) := by simp [intz, List.map_set]
theorem intz_get (l : List Int) (i : Nat) (x : Int) (h : l[i]? = some x) : (intz l)[i]? = some (.int .i64 x) := by simp [intz, h]

end Go.Proofs.Ytghdnnfohllcbaa.S10
