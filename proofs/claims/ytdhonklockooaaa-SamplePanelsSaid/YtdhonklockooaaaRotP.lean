import Derived.Test.YtdhonklockooaaaInts10
import Derived.Laws.AppendOwn
import Derived.Laws.OwnMore
import Derived.BigQuiet
import Derived.Test.YtdhonklockooaaaSmpAw
/- Layer 10: panels that rotate: which are in the sample, and how often. -/
namespace Go.Proofs.Ytdhonklockooaaa.S10

/-- the panels in the sample q periods after the first, of N panels that stay T periods, with a step of S -/
def pin (N S T q i : Nat) : Bool := decide ((q + N * S - i * S) % (N * S) < T)
def pan (N S T q : Nat) : List Nat := (List.range N).filter (pin N S T q)
def cnt (N S T m i : Nat) : Nat := (List.range m).countP (fun q => pin N S T q i)
def chkOne (N S K : Nat) : Bool := ((List.range (N * S)).all fun q => (pan N S (K * S) q).length == K && (pan N S (K * S) (q + N * S) == pan N S (K * S) q) && ((List.range N).all fun i => (pan N S (K * S) q).count i == bif pin N S (K * S) q i then 1 else 0)) && ((List.range N).all fun i => cnt N S (K * S) (N * S) i == K * S)
def chkAll : Bool := (List.range 6).all fun n => (List.range 4).all fun s => (List.range (n + 1)).all fun k => chkOne (n + 1) (s + 1) (k + 1)
theorem chk_all : chkAll = true := by decide +kernel
theorem chk_one {N S K : Nat} (hN : 1 ≤ N) (hN2 : N ≤ 6) (hS : 1 ≤ S) (hS2 : S ≤ 4) (hK : 1 ≤ K) (hK2 : K ≤ N) : chkOne N S K = true := by
  have h := chk_all
  unfold chkAll at h
  rw [List.all_eq_true] at h
  have h1 := h (N - 1) (List.mem_range.2 (by omega))
  rw [List.all_eq_true] at h1
  have h2 := h1 (S - 1) (List.mem_range.2 (by omega))
  rw [List.all_eq_true] at h2
  have h3 := h2 (K - 1) (List.mem_range.2 (by omega))
  rwa [show N - 1 + 1 = N by omega, show S - 1 + 1 = S by omega, show K - 1 + 1 = K by omega] at h3
theorem chk_parts {N S K : Nat} (h : chkOne N S K = true) : (∀ q, q < N * S → (pan N S (K * S) q).length = K ∧ pan N S (K * S) (q + N * S) = pan N S (K * S) q ∧ ∀ i, i < N → (pan N S (K * S) q).count i = bif pin N S (K * S) q i then 1 else 0) ∧ ∀ i, i < N → cnt N S (K * S) (N * S) i = K * S := by
  unfold chkOne at h
  rw [Bool.and_eq_true, List.all_eq_true, List.all_eq_true] at h
  refine ⟨fun q hq => ?_, fun i hi => ?_⟩
  · have h1 := h.1 q (List.mem_range.2 hq)
    rw [Bool.and_eq_true, Bool.and_eq_true, List.all_eq_true] at h1
    exact ⟨by simpa using h1.1.1, by simpa using h1.1.2, fun i hi => by simpa using h1.2 i (List.mem_range.2 hi)⟩
  · simpa using h.2 i (List.mem_range.2 hi)
theorem cnt_succ (N S T m i : Nat) : cnt N S T (m + 1) i = cnt N S T m i + bif pin N S T m i then 1 else 0 := by
  unfold cnt
  rw [List.range_succ, List.countP_append]
  cases h : pin N S T m i <;> simp [h]
theorem pan_take (N S T q i : Nat) : ((List.range (i + 1)).filter (pin N S T q)) = ((List.range i).filter (pin N S T q)) ++ (bif pin N S T q i then [i] else []) := by
  rw [List.range_succ, List.filter_append]
  cases h : pin N S T q i <;> simp [h]
theorem pan_mem {N S T q i : Nat} (h : i ∈ pan N S T q) : i < N := List.mem_range.1 (List.mem_filter.1 h).1
theorem take_count (l : List Nat) (j i : Nat) (hj : j < l.length) : (l.take (j + 1)).count i = (l.take j).count i + if l[j] = i then 1 else 0 := by
  rw [List.take_succ_eq_append_getElem hj, List.count_append]
  by_cases h : l[j] = i <;> simp [h]
/-- the counts when m periods and j of the next one's panels have been counted -/
def ctn (N S T m j : Nat) : List Int := (List.range N).map fun i => ((cnt N S T m i + ((pan N S T m).take j).count i : Nat) : Int)
theorem ctn_length (N S T m j : Nat) : (ctn N S T m j).length = N := by simp [ctn]
theorem ctn_get {N S T m j i : Nat} (hi : i < N) : (ctn N S T m j)[i]? = some ((cnt N S T m i + ((pan N S T m).take j).count i : Nat) : Int) := by simp [ctn, hi]
theorem ctn_step {N S T m j : Nat} (hj : j < (pan N S T m).length) : (ctn N S T m j).set ((pan N S T m)[j]) (((cnt N S T m (pan N S T m)[j] + ((pan N S T m).take j).count (pan N S T m)[j] : Nat) : Int) + 1) = ctn N S T m (j + 1) := by
  have hp : (pan N S T m)[j] < N := pan_mem (List.getElem_mem hj)
  apply List.ext_getElem (by simp [ctn])
  intro i h1 h2
  have hi : i < N := by simpa [ctn] using h2
  rw [List.getElem_set]
  have e := take_count (pan N S T m) j i hj
  by_cases h : (pan N S T m)[j] = i
  · rw [if_pos h] at e ⊢
    simp only [ctn, List.getElem_map, List.getElem_range]
    rw [e, h]
    omega
  · rw [if_neg h] at e ⊢
    simp only [ctn, List.getElem_map, List.getElem_range]
    rw [e]
    omega
theorem ctn_next {N S K m : Nat} (h : chkOne N S K = true) (hm : m < N * S) : ctn N S (K * S) m K = ctn N S (K * S) (m + 1) 0 := by
  obtain ⟨h1, _, h3⟩ := (chk_parts h).1 m hm
  unfold ctn
  apply List.map_congr_left
  intro i hi
  have hi' : i < N := List.mem_range.1 hi
  rw [cnt_succ, ← h3 i hi', List.take_of_length_le (by omega)]
  simp
theorem ctn_end {N S K : Nat} (h : chkOne N S K = true) {i : Nat} (hi : i < N) : (ctn N S (K * S) (N * S) 0)[i]? = some ((K * S : Nat) : Int) := by
  rw [ctn_get hi, (chk_parts h).2 i hi]
  simp
theorem ctn_zero (N S T : Nat) : ctn N S T 0 0 = List.replicate N 0 := by
  apply List.ext_getElem (by simp [ctn])
  intro i h1 h2
  simp [ctn, cnt]
end Go.Proofs.Ytdhonklockooaaa.S10
/- Layer 10: ValidateRotation and Panels of valid rotations. -/
namespace Go.Proofs.Ytdhonklockooaaa.S10
open Go.RowKit Go.Sort C6

theorem infoI : (Try.prog.info? 3).map (fun i => (i.zero, i.size, i.bytes)) = some (some (.int .i64 0), 1, 8) := by kernel_rfl
theorem C6v.row_n {w : World} {base n size : Nat} {e : TypeId} {v : Value} {xs : List Value} (h : w.ownsRow base e size v n xs) : ∃ ao cap, v = .slice ao n cap := by
  rcases h.2 with ⟨rfl, h0⟩ | ⟨g, cap, cur, rfl, _⟩
  · exact ⟨none, 0, by rw [h0]⟩
  · exact ⟨_, _, rfl⟩
/-- a valid rotation -/
structure Rot (N T S F : Nat) : Prop where
  n1 : 1 ≤ N
  n2 : N ≤ 24
  s1 : 1 ≤ S
  s2 : S ≤ 12
  t1 : 1 ≤ T
  t2 : T ≤ N * S
  f2 : F ≤ 5999
  c2 : N * S ≤ 288
def rotv (N T S F : Nat) : Value := .agg #[.int .i64 (N : Int), .int .i64 (T : Int), .int .i64 (S : Int), .int .i64 (F : Int)]
def Rb (w : World) (g N T S F : Nat) : Prop := w.heap[g]? = some (.cells #[.int .i64 (N : Int), .int .i64 (T : Int), .int .i64 (S : Int), .int .i64 (F : Int)] 62 (0, 0))
theorem Rb.cells {w : World} {g N T S F : Nat} (h : Rb w g N T S F) : w.cell? ⟨g, 0, none⟩ = some (.int .i64 (N : Int)) ∧ w.cell? ⟨g, 1, none⟩ = some (.int .i64 (T : Int)) ∧ w.cell? ⟨g, 2, none⟩ = some (.int .i64 (S : Int)) ∧ w.cell? ⟨g, 3, none⟩ = some (.int .i64 (F : Int)) := by
  unfold Rb at h
  refine ⟨?_, ?_, ?_, ?_⟩ <;> simp [World.cell?, h]
theorem Rb.lt {w : World} {g N T S F : Nat} (h : Rb w g N T S F) : g < w.heap.size := (Array.getElem?_eq_some_iff.1 h).1
theorem Rb.below {w w' : World} {g N T S F : Nat} (h : Rb w g N T S F) (b : Below w.heap.size w w') : Rb w' g N T S F := (b.block g h.lt).trans h
theorem Rb.keepB {w w' : World} {B g N T S F : Nat} (h : Rb w g N T S F) (b : Below B w w') (hg : g < B) : Rb w' g N T S F := (b.block g hg).trans h
theorem Rb.new (w : World) (N T S F : Nat) : Rb (w.alloc (.cells #[.int .i64 (N : Int), .int .i64 (T : Int), .int .i64 (S : Int), .int .i64 (F : Int)] 62)) w.heap.size N T S F := by
  unfold Rb World.alloc
  simp

set_option maxHeartbeats 4000000 in
set_option maxRecDepth 100000 in
theorem Validate_rot (N T S F : Nat) (h : Rot N T S F) (w : World) : Calls Try.prog 34 #[.agg #[.int .i64 (N : Int), .int .i64 (T : Int), .int .i64 (S : Int), .int .i64 (F : Int)]] w fun e w' => e = .returned (.int .i64 0) ∧ Below w.heap.size w w' := by
  obtain ⟨n1, n2, s1, s2, t1, t2, f2, c2⟩ := h
  obtain ⟨C, hC⟩ : ∃ C, C = N * S := ⟨_, rfl⟩
  have hCi : (N : Int) * (S : Int) = (C : Int) := by rw [hC]; exact (Int.natCast_mul N S).symm
  rw [← hC] at t2 c2
  clear hC
  have a1 : decide ((N : Int) < 1) = false := by simp; omega
  have a2 : decide (24 < (N : Int)) = false := by simp; omega
  have a3 : decide ((S : Int) < 1) = false := by simp; omega
  have a4 : decide (12 < (S : Int)) = false := by simp; omega
  have a5 : decide ((T : Int) < 1) = false := by simp; omega
  have a6 : decide ((C : Int) < (T : Int)) = false := by simp; omega
  have a7 : decide ((F : Int) < 0) = false := by simp
  have a8 : decide (5999 < (F : Int)) = false := by simp; omega
  have b1 : ¬ (N : Int) < 1 := by omega
  have b2 : ¬ 24 < (N : Int) := by omega
  have b3 : ¬ (S : Int) < 1 := by omega
  have b4 : ¬ 12 < (S : Int) := by omega
  have b5 : ¬ (T : Int) < 1 := by omega
  have b6 : ¬ (C : Int) < (T : Int) := by omega
  have b7 : ¬ (F : Int) < 0 := by omega
  have b8 : ¬ 5999 < (F : Int) := by omega
  have hw : IntKind.i64.wrap (C : Int) = (C : Int) := IntWalk.i64_in _ (by omega)
  have hb := below_new w (.cells #[.int .i64 (N : Int), .int .i64 (T : Int), .int .i64 (S : Int), .int .i64 (F : Int)] 62)
  have HB := Lib.hid hb
  clear hb
  go_enter Try.func34, Try.ntmps34
  go_wp2_with fail
  go_ret
  exact ⟨rfl, HB.out⟩

/-- the panels as cells -/
def zl (l : List Nat) : List Value := l.map fun i : Nat => Value.int .i64 ((i : Nat) : Int)
theorem zl_len (l : List Nat) : (zl l).length = l.length := by simp [zl]
theorem zl_snoc (l : List Nat) (i : Nat) : zl (l ++ [i]) = zl l ++ [.int .i64 (i : Int)] := by simp [zl]
theorem zl_intz (l : List Nat) : zl l = intz (l.map fun i : Nat => ((i : Nat) : Int)) := by simp [zl, intz]
def PanPost (w : World) (ns : List Nat) (e : Ending) (w' : World) : Prop := ∃ (a : Option Addr) (n c : Nat), e = .returned (.slice a n c) ∧ n = ns.length ∧ w'.ownsRow w.heap.size 3 1 (.slice a n c) n (zl ns) ∧ Below w.heap.size w w'

set_option maxHeartbeats 8000000 in
set_option maxRecDepth 100000 in
theorem Panels_v (N T S F q P : Nat) (h : Rot N T S F) (hP : P = F + q) (hP2 : P ≤ 5999) (w : World) : Calls Try.prog 36 #[.agg #[.int .i64 (N : Int), .int .i64 (T : Int), .int .i64 (S : Int), .int .i64 (F : Int)], .int .i64 (P : Int)] w (PanPost w (pan N S T q)) := by
  obtain ⟨i0, hi, hz0, hz1, hz2⟩ := info_parts infoI
  obtain ⟨W1, hW1⟩ : ∃ W, W = w.alloc (.cells #[.int .i64 (N : Int), .int .i64 (T : Int), .int .i64 (S : Int), .int .i64 (F : Int)] 62) := ⟨_, rfl⟩
  obtain ⟨g, hg⟩ : ∃ g, g = w.heap.size := ⟨_, rfl⟩
  have x1 : Rb W1 g N T S F := by rw [hW1, hg]; exact Rb.new _ _ _ _ _
  have b1 : Below w.heap.size w W1 := by rw [hW1]; exact below_new _ _
  have s1 : W1.heap.size = g + 1 := by rw [hW1, hg]; exact World.size_alloc _ _
  have VR := Lib.hid (Validate_rot N T S F h W1)
  obtain ⟨n1, n2, s1', s2, t1, t2, f2, c2⟩ := h
  obtain ⟨C, hC⟩ : ∃ C, C = N * S := ⟨_, rfl⟩
  have hCi : (N : Int) * (S : Int) = (C : Int) := by rw [hC]; exact (Int.natCast_mul N S).symm
  have HC := Lib.hid hC
  have hC1 : 1 ≤ C := by rw [hC]; exact Nat.mul_pos n1 s1'
  rw [← hC] at t2 c2
  have HX := Lib.hid x1
  have HB1 := Lib.hid b1
  have HS := Lib.hid s1
  have HG := Lib.hid hg
  have p1 : ¬ (P : Int) < (F : Int) := by omega
  have p2 : ¬ 5999 < (P : Int) := by omega
  have p1d : decide ((P : Int) < (F : Int)) = false := by simp; omega
  have p1n : decide (P < F) = false := by simp; omega
  have p2n : decide (5999 < P) = false := by simp; omega
  have p2d : decide (5999 < (P : Int)) = false := by simp; omega
  obtain ⟨k0, k1, k2, k3⟩ := x1.cells
  have HP0 := Lib.hid hP
  have HP5 := Lib.hid hP2
  clear x1 b1 s1 hC hP hP2
  go_enter Try.func36, Try.ntmps36
  go_wp2_with fail
  rw [← hW1]
  try rw [← hg]
  clear hW1 hg
  refine VR.out.mono ?_; rintro e w2 ⟨rfl, b2⟩
  have X2 := Lib.hid (HX.out.below b2)
  have HB2 : Hid (Below w.heap.size w w2) := HB1.out.trans (b2.mono HB1.out.size)
  have hs2 : g + 1 ≤ w2.heap.size := X2.out.lt
  clear k0 k1 k2 k3 b2
  obtain ⟨k0, k1, k2, k3⟩ := X2.out.cells
  have hwC : IntKind.i64.wrap (C : Int) = (C : Int) := IntWalk.i64_in _ (by omega)
  go_wp2_with fail
  clear k0 k1 k2 k3 p1 p2 p1d p2d p1n p2n
  go_loopw [28, 6] (fun s28 s6 wr => ∃ (i n : Nat) (v : Value), i ≤ N ∧ s28 = .int .i64 (i : Int) ∧ v = s6 ∧ Hid (n = ((List.range i).filter (pin N S T q)).length) ∧ Hid (wr.ownsRow (g + 1) 3 1 v n (zl ((List.range i).filter (pin N S T q)))) ∧ Hid (Below (g + 1) w2 wr)) (fun s28 _ _ => N - (intOf s28).toNat)
  case atStart => exact ⟨0, 0, _, by omega, rfl, rfl, rfl, World.ownsRow_nil _ _ _ _, Below.refl _ _⟩
  case round =>
    obtain ⟨i, n, v, hiN, rfl, rfl, hn, hown, hbl⟩ := hrel
    have hxr : Rb wr g N T S F := X2.out.keepB hbl.out (Nat.lt_succ_self g)
    have hszr : g + 1 ≤ wr.heap.size := hxr.lt
    obtain ⟨k0, k1, k2, k3⟩ := hxr.cells
    by_cases hlt : i < N
    · have hlt2 : (i : Int) < (N : Int) := by omega
      obtain ⟨m, hm⟩ : ∃ m, m = i * S := ⟨_, rfl⟩
      have hmi : (i : Int) * (S : Int) = (m : Int) := by rw [hm]; exact (Int.natCast_mul i S).symm
      have hmC : m < C := by rw [hm, HC.out]; exact Nat.mul_lt_mul_of_pos_right hlt s1'
      obtain ⟨x, hx⟩ : ∃ x, x = q + C - m := ⟨_, rfl⟩
      obtain ⟨y, hy⟩ : ∃ y, y = x % C := ⟨_, rfl⟩
      have hpin : Hid (pin N S T q i = decide (y < T)) := by unfold pin Hid; rw [hy, hx, HC.out, hm]
      have e1 : (P : Int) - (F : Int) = (q : Int) := by have := HP0.out; omega
      obtain ⟨z, hz⟩ : ∃ z : Int, z = (q : Int) - (m : Int) := ⟨_, rfl⟩
      have e2 : z + (C : Int) = (x : Int) := by omega
      have e3 : Int.tmod (x : Int) (C : Int) = (y : Int) := by rw [hy]; exact (Int.ofNat_tmod x C).symm
      have hC0 : ¬ (C : Int) = 0 := by omega
      have hC0b : ((C : Int) == 0) = false := by simp; omega
      have hq5 : q ≤ 6000 := by have := HP0.out; have := HP5.out; omega
      have w1 : IntKind.i64.wrap (q : Int) = (q : Int) := IntWalk.i64_in _ (by omega)
      have w2' : IntKind.i64.wrap (m : Int) = (m : Int) := IntWalk.i64_in _ (by omega)
      have w3 : IntKind.i64.wrap z = z := IntWalk.i64_in _ (by omega)
      have w4 : IntKind.i64.wrap (x : Int) = (x : Int) := IntWalk.i64_in _ (by omega)
      have w5 : IntKind.i64.wrap (y : Int) = (y : Int) := IntWalk.i64_in _ (by have : y < C := by rw [hy]; exact Nat.mod_lt _ (by omega)
                                                                               omega)
      have hq6 : (q : Int) ≤ 6000 := by omega
      have hm6 : (m : Int) ≤ 288 := by omega
      have hzz : (q : Int) - (m : Int) = z := hz.symm
      have HN3 : Hid (n ≤ 24) := by
        unfold Hid
        rw [hn.out]
        refine Nat.le_trans (List.length_filter_le _ _) ?_
        rw [List.length_range]; omega
      clear hm hx hy hz hxr
      by_cases hyT : y < T
      · have hyd : decide ((y : Int) < (T : Int)) = true := by simp; omega
        have hyT2 : (y : Int) < (T : Int) := by omega
        have HP : Hid (pin N S T q i = true) := by unfold Hid; rw [hpin.out]; exact decide_eq_true hyT
        clear hpin
        have HON := Lib.hid hown.out
        have HF2 : Hid ((List.range (i + 1)).filter (pin N S T q) = (List.range i).filter (pin N S T q) ++ [i]) := by unfold Hid; rw [pan_take, HP.out]; rfl
        go_wp2_with fail
        go_quiet (fail)
        go_wp2_with (at_builtin; refine wpList_append_own _ rfl _ _ 23 rfl (g + 1) 3 i0 (.int .i64 0) 1 8 Try.underlying23 hi hz0 hz1 hz2 rfl (by omega) _ _ _ rfl ((show World.ownsRow _ _ _ _ _ _ _ from HON.out).alloc _) ⟨wr.heap.size, 0, none⟩ 1 1 [.int .i64 (i : Int)] rfl rfl (one_cell _ _ _) (by intro u hu; simp at hu; rcases hu with rfl; rfl) (by unfold maxLen; have := HN3.out; omega) (by have := HN3.out; omega) (by simp; omega) ?_; intro v3 w3 hown3 hgr3 _; obtain ⟨a3, c3, rfl⟩ := C6v.row_n hown3; have HO3 := Lib.hid hown3; have HG3 := Lib.hid hgr3; clear hown3 hgr3)
        have HN4 : Hid (n + 1 = ((List.range (i + 1)).filter (pin N S T q)).length) := by unfold Hid; rw [HF2.out, List.length_append, ← hn.out]; rfl
        have HO4 : Hid (w3.ownsRow (g + 1) 3 1 (.slice a3 (n + 1) c3) (n + 1) (zl ((List.range (i + 1)).filter (pin N S T q)))) := by unfold Hid; rw [HF2.out, zl_snoc]; exact HO3.out
        have HB4 : Hid (Below (g + 1) w2 w3) := by
          have h1 : Below (g + 1) w2 ((wr.alloc (.cells #[.int .i64 (i : Int)] 3)).drew) := (hbl.out.trans ((below_new wr _).mono hszr)).drew
          first
            | exact h1.grown HG3.out (by show g + 1 ≤ (wr.alloc _).heap.size; rw [World.size_alloc]; omega) (fun k e => (HON.out.lt k e).1)
            | exact (hbl.out.trans ((below_new wr _).mono hszr)).grown HG3.out (by rw [World.size_alloc]; omega) (fun k e => (HON.out.lt k e).1)
            | exact ((hbl.out.trans (show Below (g + 1) wr (wr.drewN _) from ⟨rfl, rfl, rfl, Nat.le_refl _, fun _ _ => rfl⟩)).trans ((below_new _ _).mono hszr)).grown HG3.out (by rw [World.size_alloc]; show g + 1 ≤ wr.heap.size + 1; omega) (fun k e => (HON.out.lt k e).1)
        clear HF2
        go_wp2_with fail
        go_roundw
        case rel => exact ⟨i + 1, n + 1, .slice a3 (n + 1) c3, by omega, by go_num, rfl, HN4, HO4, HB4⟩
        case measure => simp [intOf]; omega
      · have hyd : decide ((y : Int) < (T : Int)) = false := by simp; omega
        have hyT2 : ¬ (y : Int) < (T : Int) := by omega
        have HP : Hid (pin N S T q i = false) := by unfold Hid; rw [hpin.out]; exact decide_eq_false hyT
        have HF2 : Hid ((List.range (i + 1)).filter (pin N S T q) = (List.range i).filter (pin N S T q)) := by unfold Hid; rw [pan_take, HP.out]; simp
        clear hpin
        go_wp2_with fail
        go_quiet (fail)
        go_wp2_with fail
        go_roundw
        case rel => exact ⟨i + 1, n, v, by omega, by go_num, rfl, by rw [HF2.out]; exact hn, by rw [HF2.out]; exact (show World.ownsRow _ _ _ _ _ _ _ from hown.out), hbl.out.trans ⟨rfl, rfl, rfl, Nat.le_refl _, fun _ _ => rfl⟩⟩
        case measure => simp [intOf]; omega
    · obtain rfl : i = N := by omega
      have hlt2 : ¬ (i : Int) < (i : Int) := by omega
      obtain ⟨a9, c9, rfl⟩ : ∃ (a : Option Addr) (c : Nat), v = .slice a n c := by
        rcases hown.out.2 with ⟨rfl, h0⟩ | ⟨g', cap, cur, rfl, _⟩
        · exact ⟨none, 0, by rw [h0]⟩
        · exact ⟨_, _, rfl⟩
      have HBF : Hid (Below w.heap.size w wr) := HB2.out.trans (hbl.out.mono (by rw [← HG.out]; omega))
      have HGW : Hid (w.heap.size ≤ g + 1) := by unfold Hid; rw [← HG.out]; omega
      clear hxr
      go_wp2_with fail
      go_ret
      refine ⟨a9, n, c9, rfl, hn.out, ?_, HBF.out⟩
      exact ⟨hown.out.1, hown.out.2.imp id fun ⟨g', cap, cur, hv, h1, h2⟩ => ⟨g', cap, cur, hv, Nat.le_trans HGW.out h1, h2⟩⟩
end Go.Proofs.Ytdhonklockooaaa.S10
/- SamplePanels for all inputs: panels that stay for a whole number of steps. -/
namespace Go.Proofs.Ytdhonklockooaaa.S10
open Go.RowKit Go.Sort C6

set_option maxHeartbeats 4000000 in
set_option maxRecDepth 100000 in
theorem Panels_before (N T S F : Nat) (p : Int) (h : Rot N T S F) (hp : p < (F : Int)) (w : World) : Calls Try.prog 36 #[.agg #[.int .i64 (N : Int), .int .i64 (T : Int), .int .i64 (S : Int), .int .i64 (F : Int)], .int .i64 p] w fun e w' => e = .returned (.slice none 0 0) ∧ Below w.heap.size w w' := by
  obtain ⟨W1, hW1⟩ : ∃ W, W = w.alloc (.cells #[.int .i64 (N : Int), .int .i64 (T : Int), .int .i64 (S : Int), .int .i64 (F : Int)] 62) := ⟨_, rfl⟩
  obtain ⟨g, hg⟩ : ∃ g, g = w.heap.size := ⟨_, rfl⟩
  have x1 : Rb W1 g N T S F := by rw [hW1, hg]; exact Rb.new _ _ _ _ _
  have b1 : Below w.heap.size w W1 := by rw [hW1]; exact below_new _ _
  have VR := Lib.hid (Validate_rot N T S F h W1)
  have HX := Lib.hid x1
  have HB1 := Lib.hid b1
  have p1d : decide (p < (F : Int)) = true := by simp; omega
  obtain ⟨k0, k1, k2, k3⟩ := x1.cells
  clear x1 b1
  go_enter Try.func36, Try.ntmps36
  go_wp2_with fail
  rw [← hW1]
  try rw [← hg]
  clear hW1 hg
  refine VR.out.mono ?_; rintro e w2 ⟨rfl, b2⟩
  have X2 := Lib.hid (HX.out.below b2)
  have HB2 : Hid (Below w.heap.size w w2) := HB1.out.trans (b2.mono HB1.out.size)
  clear k0 k1 k2 k3 b2
  obtain ⟨k0, k1, k2, k3⟩ := X2.out.cells
  go_wp2_with fail
  go_ret
  exact ⟨rfl, HB2.out⟩

theorem made_zero (N S T : Nat) : (madeCells (Value.int .i64 0).cells (N * 1)).toList = intz (ctn N S T 0 0) := by
  rw [ctn_zero, Nat.mul_one]
  rw [show (Value.int .i64 0).cells = #[Value.int .i64 0] from rfl, toList_madeCells_one]
  simp [intz]
theorem intz_set (l : List Int) (i : Nat) (x : Int) : (intz l).set i (.int .i64 x) = intz (l.set i x) := by simp [intz, List.map_set]
theorem intz_get (l : List Int) (i : Nat) (x : Int) (h : l[i]? = some x) : (intz l)[i]? = some (.int .i64 x) := by simp [intz, h]

set_option maxHeartbeats 16000000 in
set_option maxRecDepth 100000 in
theorem SamplePanels_any (ao : Option Addr) (ts : List Int) (cap : Nat) (w : World) (ht : RdZ w ao cap ts) :
    Calls Try.prog 8 #[.slice ao ts.length cap] w fun e w' => e = .returned (.bool true) ∧ Below w.heap.size w w' := by
  obtain ⟨i0, hi, hz0, hz1, hz2⟩ := info_parts infoI
  obtain ⟨W1, hW1⟩ : ∃ W, W = w.alloc (.cells #[.slice ao ts.length cap, .int .i64 0] 26) := ⟨_, rfl⟩
  obtain ⟨B, hB⟩ : ∃ g, g = w.heap.size := ⟨_, rfl⟩
  have b1 : Below w.heap.size w W1 := by rw [hW1]; exact below_new _ _
  have T1 : Tap W1 B ao ts.length cap 0 := by rw [hW1, hB]; exact Tap.new w ao ts.length cap
  have s1 : W1.heap.size = B + 1 := by rw [hW1, hB]; exact World.size_alloc _ _
  have R1 := ht.below b1
  have RTL : 0 < (intz ts).length → ∀ b o, ao = some ⟨b, o, none⟩ → b < B := fun h0 b o e => by have := ht.lt h0 b o e; omega
  have NX : Hid (∀ (W : World) (i m : Nat), Tap W B ao ts.length cap i → W1.grownBy W (some B) → i ≤ 900 → 1 ≤ m → m ≤ 1000 → ∀ q : Int, q = m → Calls Try.prog 11 #[.pointer (some ⟨B, 0, none⟩), .int .i64 q] W (NextPost W B ao ts.length cap i m)) := fun W i m hT hg hi hm1 hm2 q hq => Next_v B ao cap ts i m W hT (R1.keep RTL ⟨hg.os, hg.tape, hg.output, hg.size, fun k hk => hg.block k (by omega) (fun e => by have := Option.some.inj e; omega)⟩) (by omega) hm1 (by omega) q hq
  have HT1 := Lib.hid T1
  have HB1 := Lib.hid b1
  have HS1 := Lib.hid s1
  have HBw := Lib.hid hB
  obtain ⟨tn, htn⟩ : ∃ n, n = ts.length := ⟨_, rfl⟩
  rw [← htn] at NX HT1 hW1 ⊢
  clear ht b1 T1 s1 R1 RTL htn
  go_enter Try.func8, Try.ntmps8
  go_wp2_with fail
  rw [← hW1]
  try rw [← hB]
  clear hW1 hB
  refine (NX.out W1 0 6 HT1.out ⟨rfl, rfl, rfl, Nat.le_refl _, fun _ _ _ => rfl⟩ (by omega) (by omega) (by omega) 6 rfl).mono ?_; rintro e w2 ⟨r1, rfl, hr1, g2, z2, t2⟩
  obtain ⟨N, hN⟩ : ∃ N : Nat, 1 + (r1 : Int) = (N : Int) := ⟨1 + r1, by omega⟩
  have hN1 : 1 ≤ N ∧ N ≤ 6 := by omega
  have hNw : IntKind.i64.wrap (N : Int) = (N : Int) := IntWalk.i64_in _ (by omega)
  have NX2 := Lib.hid (NX.out w2 (0 + 1) 4 t2 g2 (by omega) (by omega) (by omega) 4 rfl)
  have HG2 := Lib.hid g2
  have HZ2 := Lib.hid z2
  clear g2 z2 t2 hr1
  go_wp2_with fail
  refine NX2.out.mono ?_; rintro e w3 ⟨r2, rfl, hr2, g3, z3, t3⟩
  obtain ⟨S, hS⟩ : ∃ S : Nat, 1 + (r2 : Int) = (S : Int) := ⟨1 + r2, by omega⟩
  have hS1 : 1 ≤ S ∧ S ≤ 4 := by omega
  have hSw : IntKind.i64.wrap (S : Int) = (S : Int) := IntWalk.i64_in _ (by omega)
  have HG3 : Hid (W1.grownBy w3 (some B)) := gb_trans HG2.out g3
  have NX3 := Lib.hid (NX.out w3 (0 + 1 + 1) 20 t3 HG3.out (by omega) (by omega) (by omega) 20 rfl)
  have HZ3 : Hid (w3.heap.size = W1.heap.size) := z3.trans HZ2.out
  clear g3 z3 t3 hr2 NX2
  go_wp2_with fail
  refine NX3.out.mono ?_; rintro e w4 ⟨F, rfl, hF, g4, z4, t4⟩
  have HG4 : Hid (W1.grownBy w4 (some B)) := gb_trans HG3.out g4
  have hz4 : w4.heap.size = B + 1 := by rw [z4, HZ3.out]; exact HS1.out
  obtain ⟨W5, hW5⟩ : ∃ W, W = w4.alloc (.cells #[.int .i64 (N : Int), .int .i64 0, .int .i64 (S : Int), .int .i64 (F : Int)] 62) := ⟨_, rfl⟩
  obtain ⟨g5, hg5⟩ : ∃ g, g = B + 1 := ⟨_, rfl⟩
  have x5 : W5.heap[g5]? = some (.cells #[.int .i64 (N : Int), .int .i64 0, .int .i64 (S : Int), .int .i64 (F : Int)] 62 (0, 0)) := by rw [hW5, hg5, ← hz4]; exact heap_alloc_new _ _
  have b5 : Below w4.heap.size w4 W5 := by rw [hW5]; exact below_new _ _
  have HT5 := Lib.hid (t4.keep b5)
  have HG5 : Hid (W1.grownBy W5 (some B)) := gb_trans HG4.out (below_gb b5 _)
  have hgB : B < g5 := by omega
  have HX5 := Lib.hid x5
  have NX5 : Hid (∀ q : Int, q = N → Calls Try.prog 11 #[.pointer (some ⟨B, 0, none⟩), .int .i64 q] W5 (NextPost W5 B ao tn cap (0 + 1 + 1 + 1) N)) := fun q hq => NX.out W5 (0 + 1 + 1 + 1) N HT5.out HG5.out (by omega) (by omega) (by omega) q hq
  clear g4 z4 t4 b5 NX3 x5 NX HG2 HG3 HZ2 HZ3
  go_upto_region 3 with fail
  rw [← hW5]
  try rw [← hg5]
  clear hW5 hg5
  have k0 : W5.cell? ⟨g5, 0, none⟩ = some (.int .i64 (N : Int)) := by have := HX5.out; simp [World.cell?, this]
  go_wp2_with fail
  refine (NX5.out (N : Int) rfl).mono ?_; rintro e w6 ⟨r4, rfl, hr4, g6, z6, t6⟩
  clear k0
  obtain ⟨K, hK⟩ : ∃ K : Nat, 1 + (r4 : Int) = (K : Int) := ⟨1 + r4, by omega⟩
  have hK1 : 1 ≤ K ∧ K ≤ N := by omega
  have hKw : IntKind.i64.wrap (K : Int) = (K : Int) := IntWalk.i64_in _ (by omega)
  have x6 : w6.heap[g5]? = some (.cells #[.int .i64 (N : Int), .int .i64 0, .int .i64 (S : Int), .int .i64 (F : Int)] 62 (0, 0)) := (g6.block g5 (Array.getElem?_eq_some_iff.1 HX5.out).1 (fun e => by have := Option.some.inj e; omega)).trans HX5.out
  obtain ⟨T, hT⟩ : ∃ T, T = K * S := ⟨_, rfl⟩
  obtain ⟨C, hC⟩ : ∃ C, C = N * S := ⟨_, rfl⟩
  have hTi : (K : Int) * (S : Int) = (T : Int) := by rw [hT]; exact (Int.natCast_mul K S).symm
  have hCi : (N : Int) * (S : Int) = (C : Int) := by rw [hC]; exact (Int.natCast_mul N S).symm
  have hTC : T ≤ C := by rw [hT, hC]; exact Nat.mul_le_mul_right S hK1.2
  have hC24 : C ≤ 24 := by rw [hC]; exact Nat.le_trans (Nat.mul_le_mul hN1.2 hS1.2) (by decide)
  have hT1 : 1 ≤ T := by rw [hT]; exact Nat.mul_pos hK1.1 hS1.1
  have RO : Hid (Rot N T S F) := ⟨hN1.1, by omega, hS1.1, by omega, hT1, by rw [← hC]; exact hTC, by omega, by rw [← hC]; omega⟩
  have CH := Lib.hid (chk_one hN1.1 hN1.2 hS1.1 hS1.2 hK1.1 hK1.2)
  have HT := Lib.hid hT
  have HC := Lib.hid hC
  have hTw : IntKind.i64.wrap (T : Int) = (T : Int) := IntWalk.i64_in _ (by omega)
  have hCw : IntKind.i64.wrap (C : Int) = (C : Int) := IntWalk.i64_in _ (by omega)
  obtain ⟨W7, hW7⟩ : ∃ W, W = w6.setCell ⟨g5, 1, none⟩ (.int .i64 (T : Int)) := ⟨_, rfl⟩
  have RB7 : Rb W7 g5 N T S F := by
    rw [hW7]
    unfold Rb
    simp [World.setCell, Array.getElem?_modify, x6]
  have HB7 : Hid (Below w.heap.size w W7) := by
    have h1 := HB1.out
    have hg := gb_trans HG5.out g6
    have h2 : Below w.heap.size w w6 := ⟨hg.os.trans h1.os, hg.tape.trans h1.tape, hg.output.trans h1.output, Nat.le_trans h1.size hg.size, fun k hk => (hg.block k (Nat.lt_of_lt_of_le hk h1.size) (fun e => by have := Option.some.inj e; have := HBw.out; omega)).trans (h1.block k hk)⟩
    rw [hW7]
    exact h2.setCell (by show w.heap.size ≤ g5; have := HBw.out; omega) _
  obtain ⟨k0, k1, k2, k3⟩ : w6.cell? ⟨g5, 0, none⟩ = some (.int .i64 (N : Int)) ∧ w6.cell? ⟨g5, 1, none⟩ = some (.int .i64 0) ∧ w6.cell? ⟨g5, 2, none⟩ = some (.int .i64 (S : Int)) ∧ w6.cell? ⟨g5, 3, none⟩ = some (.int .i64 (F : Int)) := by
    refine ⟨?_, ?_, ?_, ?_⟩ <;> simp [World.cell?, x6]
  have f1 : w6.frozen? ⟨g5, 1, none⟩ = false := by simp [World.frozen?, x6]
  have HR7 := Lib.hid RB7
  clear g6 z6 t6 NX5 x6 hT hC hr4 HX5 HT5 HG5 RB7
  go_upto_region 5 with fail
  rw [← hW7]
  clear hW7 k0 k1 k2 k3 f1
  obtain ⟨k0, k1, k2, k3⟩ := HR7.out.cells
  go_upto_region 7 with (at_make; go_loud (refine wpList_make_full _ rfl _ _ 23 rfl W7.heap.size 3 i0 (.int .i64 0) 1 Try.underlying23 hi hz0 hz1 _ _ _ _ N rfl rfl (by omega) (by omega) (by rw [hz2]; omega) (by unfold maxLen; omega) (Nat.le_refl _) ?_); intro w8 hown8 hgr8)
  all_goals
    obtain ⟨gC, hgC⟩ : ∃ g, g = W7.heap.size := ⟨_, rfl⟩
    rw [made_zero N S T, ← hgC] at hown8
    have b8 : Below W7.heap.size W7 w8 := (Below.refl _ _).grown hgr8 (Nat.le_refl _) (fun k hk => by cases hk)
    have HO8 := Lib.hid hown8
    have HR8 := Lib.hid (HR7.out.below b8)
    have HB8 : Hid (Below w.heap.size w w8) := HB7.out.trans (b8.mono HB7.out.size)
    have hgC5 : g5 < gC := by rw [hgC]; exact HR7.out.lt
    have hgCw : w.heap.size ≤ gC := by rw [hgC]; exact HB7.out.size
    try rw [← hgC]
    clear hown8 hgr8 b8 hgC k0 k1 k2 k3 hi hz0 hz1 hz2
    obtain ⟨k0, k1, k2, k3⟩ := HR8.out.cells
    go_wp2_with fail
    obtain ⟨E, hE⟩ : ∃ E : Nat, (F : Int) + (C : Int) = (E : Int) := ⟨F + C, by omega⟩
    have hEw : IntKind.i64.wrap (E : Int) = (E : Int) := IntWalk.i64_in _ (by omega)
    have HE : Hid (E = F + C) := by unfold Hid; omega
    clear k0 k1 k2 k3
    go_loopw [8] (fun s8 wr => ∃ m P : Nat, m ≤ C ∧ s8 = .int .i64 (P : Int) ∧ Hid (P = F + m) ∧ Hid (wr.ownsRow gC 3 1 (.slice (some ⟨gC, 0, none⟩) N N) N (intz (ctn N S T m 0))) ∧ Hid (Rb wr g5 N T S F) ∧ Hid (Below w.heap.size w wr)) (fun s8 _ => E - (intOf s8).toNat)
    case atStart => exact ⟨0, F, by omega, rfl, rfl, HO8, HR8, HB8⟩
    case round =>
      obtain ⟨m, P, hmC, rfl, hP, hO, hR, hb⟩ := hrel
      obtain ⟨k0, k1, k2, k3⟩ := hR.out.cells
      by_cases hlt : m < C
      · have hPE : (P : Int) < (E : Int) := by have := hP.out; have := HE.out; omega
        have hPb : P ≤ 5000 := by have := hP.out; omega
        have PV := Lib.hid (Panels_v N T S F m P RO.out hP.out (by omega) wr)
        have hpan := (chk_parts CH.out).1 m (by rw [← HC.out]; exact hlt)
        rw [← HT.out] at hpan
        have HPN : Hid ((pan N S T m).length = K ∧ pan N S T (m + C) = pan N S T m) := ⟨hpan.1, by have := hpan.2.1; rw [← HC.out] at this; exact this⟩
        have hgCl := (hO.out.lt gC rfl).2
        clear hpan
        go_wp2_with fail
        refine PV.out.mono ?_; rintro e w9 ⟨aN, n, cN, rfl, hn, hrow, b9⟩
        obtain rfl : n = K := by rw [hn]; exact HPN.out.1
        obtain ⟨gN, hgN⟩ : ∃ g, aN = some ⟨g, 0, none⟩ := by
          rcases hrow.2 with ⟨e0, h0⟩ | ⟨g, c', cur, e0, _⟩
          · omega
          · exact ⟨g, by injection e0⟩
        subst hgN
        have hgNC : gC < gN := by have := (hrow.lt gN rfl).1; omega
        obtain ⟨Q, hQ⟩ : ∃ Q : Nat, (P : Int) + (C : Int) = (Q : Int) := ⟨P + C, by omega⟩
        have hQw : IntKind.i64.wrap (Q : Int) = (Q : Int) := IntWalk.i64_in _ (by omega)
        have PV2 := Lib.hid (Panels_v N T S F (m + C) Q RO.out (by have := hP.out; omega) (by omega) w9)
        have HR9 := Lib.hid (hR.out.below b9)
        have HO9 := Lib.hid (row_below hO.out b9)
        have HN9 := Lib.hid (row_lift hrow (Nat.zero_le _))
        have HB9 : Hid (Below w.heap.size w w9) := hb.out.trans (b9.mono hb.out.size)
        have hkk : ((n : Int) == (n : Int)) = true := beq_self_eq_true _
        have hkk2 : ((n : Int) != (n : Int)) = false := by rw [bne, hkk]; rfl
        clear hrow b9 hn PV hO hR hb k0 k1 k2 k3 hgCl
        obtain ⟨k0, k1, k2, k3⟩ := HR9.out.cells
        go_wp2_with fail
        refine PV2.out.mono ?_; rintro e w10 ⟨a2, n2, c2, rfl, hn2, hrow2, b10⟩
        rw [HPN.out.2] at hn2 hrow2
        obtain rfl : n2 = n := by rw [hn2]; exact HPN.out.1
        have HR10 := Lib.hid (HR9.out.below b10)
        have HO10 := Lib.hid (row_below HO9.out b10)
        have HN10 := Lib.hid (row_below HN9.out b10)
        have HB10 : Hid (Below w.heap.size w w10) := HB9.out.trans (b10.mono HB9.out.size)
        obtain ⟨zs, hzs⟩ : ∃ zs, zs = (pan N S T m).map fun i : Nat => ((i : Nat) : Int) := ⟨_, rfl⟩
        have hzl : zs.length = n2 := by rw [hzs, List.length_map]; exact HPN.out.1
        have SI := Lib.hid (by
          have h1 := HN10.out
          have h2 := hrow2
          rw [zl_intz, ← hzs] at h1 h2
          have := SameInts_v (some ⟨gN, 0, none⟩) a2 cN c2 zs zs w10 (rdz_row hzl h1) (rdz_row hzl h2)
          rw [hzl, decide_eq_true (rfl : zs = zs)] at this
          exact this)
        clear hrow2 b10 hn2 PV2 k0 k1 k2 k3 HR9 HO9 HN9 HB9 hzs hzl
        go_wp2_with fail
        refine SI.out.mono ?_; rintro e w11 ⟨rfl, b11⟩
        have HR11 := Lib.hid (HR10.out.below b11)
        have HO11 : Hid (w11.ownsRow gC 3 1 (.slice (some ⟨gC, 0, none⟩) N N) N (intz (ctn N S T m 0))) := row_below HO10.out b11
        have HN11 := Lib.hid (row_below HN10.out b11)
        have HB11 : Hid (Below w.heap.size w w11) := HB10.out.trans (b11.mono HB10.out.size)
        have hcN : n2 ≤ cN ∧ cN ≤ 9223372036854775807 := by
          rcases HN11.out.2 with ⟨e0, h0⟩ | ⟨g, c', cur, e0, _, _, h3, hm, _⟩
          · cases e0
          · cases e0; unfold maxLen at hm; omega
        clear b11 SI HR10 HO10 HN10 HB10
        go_wp2_with fail
        go_loopw [73] (fun s73 wq => ∃ j : Nat, j ≤ n2 ∧ s73 = .int .i64 (j : Int) ∧ Hid (wq.ownsRow gC 3 1 (.slice (some ⟨gC, 0, none⟩) N N) N (intz (ctn N S T m j))) ∧ Hid (wq.ownsRow 0 3 1 (.slice (some ⟨gN, 0, none⟩) n2 cN) n2 (zl (pan N S T m))) ∧ Hid (Rb wq g5 N T S F) ∧ Hid (Below w.heap.size w wq)) (fun s73 _ => n2 - (intOf s73).toNat)
        case atStart => exact ⟨0, by omega, rfl, HO11, HN11, HR11, HB11⟩
        case round =>
          obtain ⟨j, hj, rfl, hO, hN9, hR, hb⟩ := hrel
          by_cases hjlt : j < n2
          · have hj2 : (j : Int) < (n2 : Int) := by omega
            have hjl : j < (pan N S T m).length := by rw [HPN.out.1]; exact hjlt
            obtain ⟨i, hi⟩ : ∃ i, i = (pan N S T m)[j] := ⟨_, rfl⟩
            have hiN : i < N := by rw [hi]; exact pan_mem (List.getElem_mem hjl)
            have c0 : wr.cell? ⟨gN, j, none⟩ = some (.int .i64 (i : Int)) := (hN9.out.cellAt j (by omega)).trans (by simp [zl, hjl, hi])
            obtain ⟨v, hv⟩ : ∃ v : Nat, v = cnt N S T m i + ((pan N S T m).take j).count i := ⟨_, rfl⟩
            have c1 : wr.cell? ⟨gC, i, none⟩ = some (.int .i64 (v : Int)) := (hO.out.cellAt i (by omega)).trans (by rw [hv]; exact intz_get _ _ _ (ctn_get hiN))
            have f1 := hO.out.frozenAt i
            have hvb : v ≤ 1000 := by
              have h1 : cnt N S T m i ≤ m := by unfold cnt; exact Nat.le_trans List.countP_le_length (by simp)
              have h2 : ((pan N S T m).take j).count i ≤ j := Nat.le_trans List.count_le_length (by simp; omega)
              omega
            have hvw : IntKind.i64.wrap ((v : Int) + 1) = (v : Int) + 1 := IntWalk.i64_in _ (by omega)
            obtain ⟨hs, hg⟩ := hO.out.stored i (.int .i64 ((v : Int) + 1))
            rw [intz_set, hv, hi, ctn_step hjl, ← hi, ← hv] at hs
            have HS := Lib.hid hs
            have HNs : Hid ((wr.setCell ⟨gC, i, none⟩ (.int .i64 ((v : Int) + 1))).ownsRow 0 3 1 (.slice (some ⟨gN, 0, none⟩) n2 cN) n2 (zl (pan N S T m))) := hN9.out.kept hg (.inr (by simp [Value.ownBlock]; omega))
            have HRs : Hid (Rb (wr.setCell ⟨gC, i, none⟩ (.int .i64 ((v : Int) + 1))) g5 N T S F) := (hg.block g5 hR.out.lt (fun e => by have := Option.some.inj e; omega)).trans hR.out
            have HBs : Hid (Below w.heap.size w (wr.setCell ⟨gC, i, none⟩ (.int .i64 ((v : Int) + 1)))) := hb.out.setCell hgCw _
            have hi0 : ¬ (i : Int) < 0 := by omega
            have hiN2 : ¬ (N : Int) ≤ (i : Int) := by omega
            have hiN3 : (i : Int) < (N : Int) := by omega
            have hcj : j < cN := by omega
            clear hs hg hi hv hO hN9 hR hb hjl
            go_wp2_with fail
            go_roundw
            case rel => exact ⟨j + 1, by omega, by go_num, HS, HNs, HRs, HBs⟩
            case measure => simp [intOf]; omega
          · obtain rfl : j = n2 := by omega
            have hj2 : ¬ (j : Int) < (j : Int) := by omega
            have hO' : Hid (wr.ownsRow gC 3 1 (.slice (some ⟨gC, 0, none⟩) N N) N (intz (ctn N S T (m + 1) 0))) := by
              have h := ctn_next CH.out (show m < N * S by rw [← HC.out]; exact hlt)
              rw [← HT.out] at h
              unfold Hid
              rw [← h]
              exact hO.out
            have hPw : IntKind.i64.wrap ((P : Int) + 1) = (P : Int) + 1 := IntWalk.i64_in _ (by omega)
            have hP1 : Hid (P + 1 = F + (m + 1)) := by have := hP.out; unfold Hid; omega
            have hEP : Hid (P < E) := by unfold Hid; omega
            clear hO hN9
            go_wp2_with fail
            go_roundw
            case rel => exact ⟨m + 1, P + 1, by omega, by go_num, hP1, hO', hR, hb⟩
            case measure => have := hEP.out; simp [intOf]; omega
      · have hmC' : m = C := by omega
        subst hmC'
        have hPE : ¬ (P : Int) < (E : Int) := by have := hP.out; have := HE.out; omega
        obtain ⟨W9, hW9⟩ : ∃ W, W = wr := ⟨_, rfl⟩
        rw [← hW9] at hO hR hb
        rw [← hW9] at k0 k1 k2 k3
        have hend : Hid (∀ i, i < N → W9.cell? ⟨gC, i, none⟩ = some (.int .i64 (T : Int))) := fun i hi => by
          have h := ctn_end CH.out hi
          rw [← HT.out, ← HC.out] at h
          exact (hO.out.cellAt i (by omega)).trans (intz_get _ _ _ h)
        have hF1w : IntKind.i64.wrap ((F : Int) - 1) = (F : Int) - 1 := IntWalk.i64_in _ (by omega)
        have PB := Lib.hid (Panels_before N T S F ((F : Int) - 1) RO.out (by omega) W9)
        have hTT : ((T : Int) == (T : Int)) = true := beq_self_eq_true _
        have hTT2 : ((T : Int) != (T : Int)) = false := by rw [bne, hTT]; rfl
        rw [← hW9]
        clear hW9 hO
        go_wp2_with fail
        go_loopw [94] (fun s94 wq => ∃ j : Nat, j ≤ N ∧ s94 = .int .i64 (j : Int) ∧ wq = W9) (fun s94 _ => N - (intOf s94).toNat)
        case atStart => exact ⟨0, by omega, rfl, rfl⟩
        case round =>
          obtain ⟨j, hj, rfl, rfl⟩ := hrel
          by_cases hjlt : j < N
          · have hj2 : (j : Int) < (N : Int) := by omega
            have c0 := hend.out j hjlt
            go_wp2_with fail
            go_roundw
            case rel => exact ⟨j + 1, by omega, by go_num, trivial⟩
            case measure => simp [intOf]; omega
          · obtain rfl : j = N := by omega
            have hj2 : ¬ (j : Int) < (j : Int) := by omega
            go_wp2_with fail
            refine PB.out.mono ?_; rintro e w20 ⟨rfl, b20⟩
            have HB20 : Hid (Below w.heap.size w w20) := hb.out.trans (b20.mono hb.out.size)
            clear b20 PB
            go_wp2_with fail
            refine (awake10 w20).mono ?_; rintro e w21 ⟨rfl, b21⟩
            have HB21 : Hid (Below w.heap.size w w21) := HB20.out.trans (b21.mono HB20.out.size)
            clear b21
            go_wp2_with fail
            go_ret
            exact ⟨rfl, HB21.out⟩
end Go.Proofs.Ytdhonklockooaaa.S10
