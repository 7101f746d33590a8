import Derived.Test.YtmhjimcdiglpcaaGreatDrA
import Derived.Test.YtmhjimcdiglpcaaGreatDrB
import Derived.Test.YtmhjimcdiglpcaaGreatPows2
import Derived.Test.YtmhjimcdiglpcaaGreatSmpAw
/- The reference's check of sizes and a number; its search for the next certain unit. -/
namespace Go.Proofs.YtmhjimcdiglpcaaGreat.Dr
open Go.RowKit Go.Sort C6

set_option maxHeartbeats 4000000 in
theorem checked_v (xs : List Int) (n : Int) (ao : Option Addr) (cap : Nat) (w : World) (h19 : xs.length ≤ 19) (hr : RdZ w ao cap xs) :
    Calls Tryz.prog 31 #[.slice ao xs.length cap, .int .i64 n] w fun e w' => e = .returned (.int .i64 (drE xs n)) ∧ w' = w := by
  have hl1 : xs.length ≤ cap := by have := hr.1; rwa [intz_length] at this
  have hl2 := hr.2.1
  obtain ⟨N, hn⟩ : ∃ n, n = xs.length := ⟨_, rfl⟩
  obtain ⟨E, hE⟩ : ∃ E, E = drE xs n := ⟨_, rfl⟩
  have HN := Lib.hid hn
  have HR := Lib.hid hr
  have HB : Hid (szs xs = false → E = 100) := fun h => by rw [hE]; unfold drE; rw [if_pos h]
  have HG : Hid (szs xs = true → (n < 1 ∨ (N : Int) < n) → E = 102) := fun h h2 => by rw [hE]; unfold drE; rw [if_neg (by rw [h]; decide), if_pos (by rw [← hn]; exact h2)]
  have HO : Hid (szs xs = true → ¬ (n < 1 ∨ (N : Int) < n) → E = 0) := fun h h2 => by rw [hE]; unfold drE; rw [if_neg (by rw [h]; decide), if_neg (by rw [← hn]; exact h2)]
  rw [← hn] at hl1 h19 ⊢
  rw [← hE]
  clear hn hr hE
  by_cases h0 : N = 0
  · have hz : Hid (E = 100) := HB.out (by unfold szs; rw [← HN.out, h0]; rfl)
    subst h0
    clear HN HB HG HO HR
    go_enter Tryz.func31, Tryz.ntmps31
    go_wp2_with fail
    go_ret
    exact ⟨by rw [hz.out]; rfl, rfl⟩
  · have h1 : 1 ≤ N := by omega
    have hnz : decide ((N : Int) < 1) = false := decide_eq_false (by omega)
    have h200 : decide ((200 : Int) < (N : Int)) = false := decide_eq_false (by omega)
    have GB : Hid (∀ i, i < N → szOk (xs.getD i 0) = false → E = 100) := fun i hi h => HB.out (szs_bad (by rw [← HN.out]; exact hi) h)
    have GG : Hid ((∀ i, i < N → szOk (xs.getD i 0) = true) → szs xs = true) := fun h => szs_good (by rw [← HN.out]; exact h1) (fun i hi => h i (by rw [HN.out]; exact hi))
    clear h0 HB
    go_enter Tryz.func31, Tryz.ntmps31
    go_wp2_with fail
    go_loopw [17] (fun s17 wr => ∃ i : Nat, i ≤ N ∧ s17 = .int .i64 (i : Int) ∧ Hid (∀ j, j < i → szOk (xs.getD j 0) = true) ∧ wr = w) (fun s17 _ => N - (intOf s17).toNat)
    case atStart => exact ⟨0, by omega, rfl, fun j hj => by omega, rfl⟩
    case round =>
      obtain ⟨i, hin, rfl, hg, rfl⟩ := hrel
      by_cases hlt : i < N
      · have hlt2 : (i : Int) < (N : Int) := by omega
        obtain ⟨b, o, rfl, hc⟩ := HR.out.atZ (show i < xs.length by rw [← HN.out]; exact hlt)
        obtain ⟨X, hX⟩ : ∃ X, X = xs.getD i 0 := ⟨_, rfl⟩
        have gb := Lib.hid (GB.out i hlt)
        unfold Hid at gb
        rw [← hX] at hc gb
        have gb := Lib.hid gb
        have hg' : Hid (szOk X = true → ∀ j, j < i + 1 → szOk (xs.getD j 0) = true) := fun h j hj => by
          by_cases e : j = i
          · rw [e, ← hX]; exact h
          · exact hg.out j (by omega)
        clear hX hg
        by_cases x1 : X < 1
        · have hf := Lib.hid (gb.out (by unfold szOk; rw [decide_eq_false (by omega)]; rfl))
          go_wp2_with fail
          go_ret
          exact ⟨by rw [hf.out]; rfl, rfl⟩
        · have x1' : decide (X < 1) = false := decide_eq_false x1
          by_cases x2 : 1099511627776 < X
          · have hf := Lib.hid (gb.out (by unfold szOk; rw [decide_eq_false (show ¬ X ≤ 1099511627776 by omega), Bool.and_false]))
            go_wp2_with fail
            go_ret
            exact ⟨by rw [hf.out]; rfl, rfl⟩
          · have x2' : decide (1099511627776 < X) = false := decide_eq_false x2
            have hgg := Lib.hid (hg'.out (by unfold szOk; rw [decide_eq_true (show 1 ≤ X by omega), decide_eq_true (show X ≤ 1099511627776 by omega)]; rfl))
            clear gb hg'
            go_wp2_with fail
            go_roundw
            case rel => exact ⟨i + 1, by omega, by go_num, hgg, by first | rfl | trivial⟩
            case measure => simp [intOf]; omega
      · obtain rfl : i = N := by omega
        have hlt2 : ¬ (i : Int) < (i : Int) := by omega
        have hs := Lib.hid (GG.out hg.out)
        by_cases n1 : n < 1
        · have hf := Lib.hid (HG.out hs.out (.inl n1))
          go_wp2_with fail
          go_ret
          exact ⟨by rw [hf.out]; rfl, rfl⟩
        · have n1' : decide (n < 1) = false := decide_eq_false n1
          by_cases n2 : (i : Int) < n
          · have hf := Lib.hid (HG.out hs.out (.inr n2))
            go_wp2_with fail
            go_ret
            exact ⟨by rw [hf.out]; rfl, rfl⟩
          · have n2' : decide ((i : Int) < n) = false := decide_eq_false n2
            have hf := Lib.hid (HO.out hs.out (by omega))
            go_wp2_with fail
            go_ret
            exact ⟨by rw [hf.out]; rfl, rfl⟩

/-- the search for the next certain unit: the best one of the first i -/
def BI (N : Nat) (x : Nat → Int) (od : List Nat) (k : Nat) (M : Int) (i : Nat) (b : Int) : Prop :=
  (b = -1 ∨ ∃ j : Nat, b = (j : Int) ∧ j < N) ∧
  (T x od k ≤ x (od.getD k 0) * M → (i ≤ od.getD k 0 → b = -1 ∨ ∃ j : Nat, b = (j : Int) ∧ x j < x (od.getD k 0)) ∧ (od.getD k 0 < i → b = (od.getD k 0 : Int))) ∧
  (¬ T x od k ≤ x (od.getD k 0) * M → b = -1)
theorem BI.zero (N : Nat) (x : Nat → Int) (od : List Nat) (k : Nat) (M : Int) : BI N x od k M 0 (-1) := ⟨.inl rfl, fun _ => ⟨fun _ => .inl rfl, fun h => by omega⟩, fun _ => rfl⟩
theorem BI.skip {N : Nat} {x : Nat → Int} {od : List Nat} {k : Nat} {M : Int} {i : Nat} {b : Int} (h : BI N x od k M i b) (ho : Ord N x od) (hk : k < N) (hi : i ∈ od.take k ∨ x i * M < T x od k) : BI N x od k M (i + 1) b := by
  refine ⟨h.1, fun he => ?_, h.2.2⟩
  have hne : i ≠ od.getD k 0 := by
    rintro e
    rcases hi with hi | hi
    · rw [e] at hi; exact ho.next hk hi
    · rw [e] at hi; omega
  obtain ⟨h1, h2⟩ := h.2.1 he
  refine ⟨fun hl => h1 (Nat.le_of_succ_le hl), fun hl => h2 ?_⟩
  clear h1 h2 h
  omega
theorem BI.elig {N : Nat} {x : Nat → Int} {od : List Nat} {k : Nat} {M : Int} {i : Nat} (ho : Ord N x od) (hk : k < N) (hM : 0 ≤ M) (hi : i < N) (hn : i ∉ od.take k) (he : T x od k ≤ x i * M) : T x od k ≤ x (od.getD k 0) * M :=
  Int.le_trans he (Int.mul_le_mul_of_nonneg_right (ho.best hk hi hn).1 hM)
theorem BI.take {N : Nat} {x : Nat → Int} {od : List Nat} {k : Nat} {M : Int} {i : Nat} {b : Int} (h : BI N x od k M i b) (ho : Ord N x od) (hk : k < N) (hM : 0 ≤ M) (hi : i < N) (hn : i ∉ od.take k) (he : T x od k ≤ x i * M) (hb : b = -1 ∨ ∃ j : Nat, b = (j : Int) ∧ x j < x i) : BI N x od k M (i + 1) (i : Int) := by
  have hE := BI.elig ho hk hM hi hn he
  obtain ⟨h1, h2⟩ := h.2.1 hE
  have hbest := ho.best hk hi hn
  have hle : i ≤ od.getD k 0 := by
    by_cases e : i ≤ od.getD k 0
    · exact e
    · exfalso
      have e2 := h2 (by omega)
      rcases hb with hb | ⟨j, hb, hx⟩
      · omega
      · have : j = od.getD k 0 := by omega
        rw [this] at hx
        omega
  refine ⟨.inr ⟨i, rfl, hi⟩, fun _ => ⟨fun hl => .inr ⟨i, rfl, hbest.2 hl⟩, fun hl => ?_⟩, fun h => absurd hE h⟩
  have e : i = od.getD k 0 := by clear h1 h2 hb h; omega
  exact congrArg Int.ofNat e
theorem BI.keep {N : Nat} {x : Nat → Int} {od : List Nat} {k : Nat} {M : Int} {i j : Nat} (h : BI N x od k M i (j : Int)) (ho : Ord N x od) (hk : k < N) (hM : 0 ≤ M) (hi : i < N) (hn : i ∉ od.take k) (he : T x od k ≤ x i * M) (hb : x i ≤ x j) : BI N x od k M (i + 1) (j : Int) := by
  have hE := BI.elig ho hk hM hi hn he
  obtain ⟨h1, h2⟩ := h.2.1 hE
  refine ⟨h.1, fun _ => ⟨fun hl => h1 (by omega), fun hl => ?_⟩, fun h => absurd hE h⟩
  by_cases e : od.getD k 0 < i
  · exact h2 e
  · have e2 : i = od.getD k 0 := by omega
    rcases h1 (by omega) with h | ⟨j', h, hx⟩
    · omega
    · have : j' = j := by omega
      rw [this, ← e2] at hx
      omega
theorem BI.last {N : Nat} {x : Nat → Int} {od : List Nat} {k : Nat} {M : Int} {b : Int} (h : BI N x od k M N b) (ho : Ord N x od) (hk : k < N) : (T x od k ≤ x (od.getD k 0) * M → b = (od.getD k 0 : Int)) ∧ (¬ T x od k ≤ x (od.getD k 0) * M → b = -1) :=
  ⟨fun he => (h.2.1 he).2 (ho.get hk), h.2.2⟩
/-- which units are certain, as a row -/
def bl (od : List Nat) (k N : Nat) : List Value := (List.range N).map (fun (i : Nat) => Value.bool (decide (i ∈ od.take k)))
theorem bl_len (od : List Nat) (k N : Nat) : (bl od k N).length = N := by simp [bl]
theorem bl_zero (od : List Nat) (N : Nat) : bl od 0 N = List.replicate N (Value.bool false) := by
  apply List.ext_getElem
  · simp [bl]
  · intro i h1 h2; simp [bl]
theorem bl_at (od : List Nat) (k N i : Nat) (hi : i < N) : (bl od k N)[i]? = some (Value.bool (decide (i ∈ od.take k))) := by simp [bl, hi]
theorem bl_set (od : List Nat) (k N : Nat) (hk : k < od.length) : (bl od k N).set (od.getD k 0) (.bool true) = bl od (k + 1) N := by
  apply List.ext_getElem
  · simp [bl]
  · intro i h1 h2
    have hi : i < N := by simpa [bl] using h2
    rw [List.getElem_set]
    by_cases e : od.getD k 0 = i
    · rw [if_pos e]
      simp only [bl, List.getElem_map, List.getElem_range]
      rw [take_getD od hk, e]
      simp
    · rw [if_neg e]
      simp only [bl, List.getElem_map, List.getElem_range]
      have : (i ∈ od.take (k + 1)) = (i ∈ od.take k) := by
        rw [take_getD od hk]
        apply propext
        have e' : i ≠ od.getD k 0 := Ne.symm e
        simp only [List.mem_append, List.mem_singleton]
        exact ⟨fun h => h.elim id (fun h => absurd h e'), .inl⟩
      rw [decide_eq_decide.2 (iff_of_eq this)]
theorem infoBool : (Tryz.prog.info? 4).map (fun i => (i.zero, i.size, i.bytes)) = some (some (.bool false), 1, 1) := by kernel_rfl
end Go.Proofs.YtmhjimcdiglpcaaGreat.Dr
/- The reference's certain units. -/
namespace Go.Proofs.YtmhjimcdiglpcaaGreat.Dr
open Go.RowKit Go.Sort C6

def CtPost (x : Nat → Int) (od : List Nat) (m K N : Nat) (w : World) (e : Ending) (w' : World) : Prop := ∃ g, e = .returned (.tuple #[.slice (some ⟨g, 0, none⟩) N N, .int .i64 (T x od K), .int .i64 ((m : Int) - (K : Int))]) ∧ w'.ownsRow w.heap.size 4 1 (.slice (some ⟨g, 0, none⟩) N N) N (bl od K N) ∧ Below w.heap.size w w'

set_option maxHeartbeats 16000000 in
set_option maxRecDepth 100000 in
theorem certain_v (xs : List Int) (od : List Nat) (m K : Nat) (ao : Option Addr) (cap : Nat) (w : World) (hv : szs xs = true) (h19 : xs.length ≤ 19) (hm : m ≤ xs.length) (ho : Ord xs.length (fx xs) od) (hK : Cert xs.length (fx xs) od m K) (hr : RdZ w ao cap xs) :
    Calls Tryz.prog 32 #[.slice ao xs.length cap, .int .i64 (m : Int)] w (CtPost (fx xs) od m K xs.length w) := by
  obtain ⟨i0, hi, hz0, hz1, hz2⟩ := info_partsr infoBool
  have hl1 : xs.length ≤ cap := by have := hr.1; rwa [intz_length] at this
  have hl2 := hr.2.1
  have hx0 : ∀ i, i < xs.length → 1 ≤ fx xs i ∧ fx xs i ≤ 1099511627776 := fun i hi => szs_at hv hi
  have hKm := hK.K_le ho hx0
  obtain ⟨N, hN⟩ : ∃ N, N = xs.length := ⟨_, rfl⟩
  obtain ⟨x, hxx⟩ : ∃ x, x = fx xs := ⟨_, rfl⟩
  have HX : Hid (∀ i, xs.getD i 0 = x i) := fun i => by rw [hxx]; rfl
  rw [← hxx] at hx0 ho hK ⊢
  rw [← hN] at hx0 ho hK h19 hm hl1 ⊢
  have HXB : Hid (∀ i, i < N → 1 ≤ x i ∧ x i ≤ 1099511627776) := hx0
  have HO := Lib.hid ho
  have HK := Lib.hid hK
  have HN := Lib.hid hN
  have HR := Lib.hid hr
  have hNI : (0 : Int) ≤ (N : Int) := by omega
  clear hv hx0 hxx hN hr ho hK
  go_enter Tryz.func32, Tryz.ntmps32
  obtain ⟨gi, hgi⟩ : ∃ g, g = w.heap.size := ⟨_, rfl⟩
  have HGI := Lib.hid hgi
  clear hgi
  go_upto_region 2 with (at_make; go_loud (refine wpList_make_full _ rfl _ _ 41 rfl w.heap.size 4 i0 (.bool false) 1 Tryz.underlying41 hi hz0 hz1 _ _ _ _ N rfl rfl (by omega) (by omega) (by rw [hz2]; omega) (by unfold maxLen; omega) (Nat.le_refl _) ?_); intro w1 hown hgr)
  have hb1 : Below w.heap.size w w1 := (Below.refl _ _).grown hgr (Nat.le_refl _) (fun k hk => by cases hk)
  have hown1 : w1.ownsRow w.heap.size 4 1 (.slice (some ⟨w.heap.size, 0, none⟩) N N) N (bl od 0 N) := by
    have e : (madeCells (Value.bool false).cells (N * 1)).toList = bl od 0 N := by rw [show (Value.bool false).cells = #[Value.bool false] from rfl, toList_madeCells_one, Nat.mul_one, bl_zero]
    rw [← e]; exact hown
  rw [← HGI.out] at hown1
  have HO1 := Lib.hid hown1
  have HB1 := Lib.hid hb1
  have HR1 : Hid (RdZ w1 ao cap xs) := HR.out.below hb1
  try rw [← HGI.out]
  clear hown hgr hown1 hb1 hi hz0 hz1 hz2
  go_wp2_with fail
  go_loopw [19, 8] (fun s19 s8 wr => ∃ (i : Nat) (S : Int), i ≤ N ∧ s19 = .int .i64 (i : Int) ∧ s8 = .int .i64 S ∧ Hid (S = ((List.range i).map x).sum) ∧ wr = w1) (fun s19 _ _ => N - (intOf s19).toNat)
  case atStart => exact ⟨0, 0, by omega, rfl, rfl, rfl, rfl⟩
  case round =>
    obtain ⟨i, S, hiN, rfl, rfl, hS, rfl⟩ := hrel
    by_cases hlt : i < N
    · have hlt2 : (i : Int) < (N : Int) := by omega
      obtain ⟨b, f0, rfl, kx⟩ := HR1.out.atZ (show i < xs.length by rw [← HN.out]; exact hlt)
      obtain ⟨X, hX⟩ : ∃ X, X = x i := ⟨_, rfl⟩
      rw [HX.out i, ← hX] at kx
      obtain ⟨S1, hS1⟩ : ∃ S1, S1 = S + X := ⟨_, rfl⟩
      have hS2 : Hid (S1 = ((List.range (i + 1)).map x).sum) := by unfold Hid; rw [range_sum, hS1, hS.out, hX]
      have hSb := sum_bd HXB.out (i + 1) (by omega)
      rw [← hS2.out] at hSb
      have hSS : S + X = S1 := hS1.symm
      have hSw : IntKind.i64.wrap S1 = S1 := IntWalk.i64_in _ (by omega)
      clear hX hS1
      go_wp2_with fail
      go_roundw
      case rel => exact ⟨i + 1, S1, by omega, by go_num, rfl, hS2, by first | rfl | trivial⟩
      case measure => simp [intOf]; omega
    · obtain rfl : i = N := by omega
      have hlt2 : ¬ (i : Int) < (i : Int) := by omega
      have hT0 : Hid (S = T x od 0) := by unfold Hid; rw [T_all HO.out]; exact hS.out
      clear hS
      have hm0 : Hid ((m : Int) = (m : Int) - ((0 : Nat) : Int)) := by unfold Hid; omega
      go_wp2_with fail
      go_loopw [1, 8] (fun s1 s8 wr' => ∃ (k : Nat) (Mk S : Int), k ≤ K ∧ s1 = .int .i64 Mk ∧ s8 = .int .i64 S ∧ Hid (Mk = (m : Int) - (k : Int)) ∧ Hid (S = T x od k) ∧ Hid (wr'.ownsRow gi 4 1 (.slice (some ⟨gi, 0, none⟩) i i) i (bl od k i)) ∧ Hid (Below w.heap.size w wr')) (fun s1 _ _ => (intOf s1).toNat)
      case atStart => exact ⟨0, (m : Int), S, by omega, rfl, rfl, hm0, hT0, HO1, HB1⟩
      case round =>
        obtain ⟨k, Mk, S, hkK, rfl, rfl, hMk, hSk, hown, hbw⟩ := hrel
        have hMb : Mk ≤ 19 := by have := hMk.out; omega
        by_cases hpos : 0 < Mk
        · have hkN : k < i := by have := hMk.out; omega
          have HRw : Hid (RdZ _ ao cap xs) := HR.out.below hbw.out
          have hTb := T_bd HO.out HXB.out (i - k) k (by omega)
          rw [← hSk.out] at hTb
          have hstop : Hid (k < K ↔ S ≤ x (od.getD k 0) * Mk) := by
            unfold Hid
            constructor
            · intro h; have := HK.out.go k h; rw [← hSk.out, ← hMk.out] at this; exact this
            · intro h
              by_cases e : k < K
              · exact e
              · exfalso
                have e2 : k = K := by omega
                have := HK.out.stop (by omega)
                rw [← e2, ← hSk.out, ← hMk.out] at this
                omega
          go_wp2_with fail
          go_loopw [31, 11] (fun s31 s11 wi => ∃ (q : Nat) (b : Int), q ≤ i ∧ s31 = .int .i64 (q : Int) ∧ s11 = .int .i64 b ∧ Hid (BI i x od k Mk q b) ∧ wi = wr) (fun s31 _ _ => i - (intOf s31).toNat)
          case atStart => exact ⟨0, -1, by omega, rfl, rfl, BI.zero _ _ _ _ _, rfl⟩
          case round =>
            obtain ⟨q, b, hqN, rfl, rfl, hbi, rfl⟩ := hrel
            by_cases hlt : q < i
            · have hlt3 : (q : Int) < (i : Int) := by omega
              obtain ⟨b0, f0, rfl, kx⟩ := HRw.out.atZ (show q < xs.length by rw [← HN.out]; exact hlt)
              obtain ⟨X, hX⟩ : ∃ X, X = x q := ⟨_, rfl⟩
              have hXb : 1 ≤ X ∧ X ≤ 1099511627776 := by rw [hX]; exact HXB.out q hlt
              rw [HX.out q, ← hX] at kx
              have ko := (hown.out.cellAt q (by omega)).trans (bl_at od k i q hlt)
              obtain ⟨P, hP⟩ : ∃ P, P = X * Mk := ⟨_, rfl⟩
              have hPb : 0 ≤ P ∧ P ≤ 1099511627776 * 19 := by
                rw [hP]
                exact ⟨Int.mul_nonneg (by omega) (by omega), Int.mul_le_mul hXb.2 hMb (by omega) (by omega)⟩
              have hPw : IntKind.i64.wrap P = P := IntWalk.i64_in _ (by omega)
              have hPP : X * Mk = P := hP.symm
              have HXQ := Lib.hid hX
              have HPQ := Lib.hid hP
              clear hX hP
              by_cases hin : q ∈ od.take k
              · rw [decide_eq_true hin] at ko
                have hB := Lib.hid (hbi.out.skip HO.out hkN (.inl hin))
                clear hin hbi
                go_wp2_with fail
                go_roundw
                case rel => exact ⟨q + 1, b, by omega, by go_num, rfl, hB, by first | rfl | trivial⟩
                case measure => simp [intOf]; omega
              · rw [decide_eq_false hin] at ko
                by_cases hel : S ≤ P
                · have he : T x od k ≤ x q * Mk := by rw [← hSk.out, ← HXQ.out, ← HPQ.out]; exact hel
                  rcases hbi.out.1 with hb | ⟨j, hb, hj⟩
                  · have hB := Lib.hid (hbi.out.take HO.out hkN (by omega) hlt hin he (.inl hb))
                    subst hb
                    clear he hin hbi
                    go_wp2_with fail
                    go_roundw
                    case rel => exact ⟨q + 1, (q : Int), by omega, by go_num, rfl, hB, by first | rfl | trivial⟩
                    case measure => simp [intOf]; omega
                  · subst hb
                    have hjn : decide ((j : Int) < 0) = false := decide_eq_false (by omega)
                    have hjI : (j : Int) < (i : Int) := by omega
                    obtain ⟨b', f', e', kj⟩ := HRw.out.atZ (show j < xs.length by rw [← HN.out]; exact hj)
                    cases e'
                    obtain ⟨Y, hY⟩ : ∃ Y, Y = x j := ⟨_, rfl⟩
                    rw [HX.out j, ← hY] at kj
                    have hjc : j < cap := by omega
                    by_cases hgt : Y < X
                    · have hB := Lib.hid (hbi.out.take HO.out hkN (by omega) hlt hin he (.inr ⟨j, rfl, by rw [← hY, ← HXQ.out]; exact hgt⟩))
                      clear he hin hbi hY
                      go_wp2_with fail
                      go_roundw
                      case rel => exact ⟨q + 1, (q : Int), by omega, by go_num, rfl, hB, by first | rfl | trivial⟩
                      case measure => simp [intOf]; omega
                    · have hgt' : decide (Y < X) = false := decide_eq_false hgt
                      have hB := Lib.hid (hbi.out.keep HO.out hkN (by omega) hlt hin he (by rw [← hY, ← HXQ.out]; omega))
                      clear he hin hbi hY
                      go_wp2_with fail
                      go_roundw
                      case rel => exact ⟨q + 1, (j : Int), by omega, by go_num, rfl, hB, by first | rfl | trivial⟩
                      case measure => simp [intOf]; omega
                · have hel' : decide (S ≤ P) = false := decide_eq_false hel
                  have hB := Lib.hid (hbi.out.skip HO.out hkN (.inr (by rw [← hSk.out, ← HXQ.out, ← HPQ.out]; omega)))
                  clear hin hbi
                  go_wp2_with fail
                  go_roundw
                  case rel => exact ⟨q + 1, b, by omega, by go_num, rfl, hB, by first | rfl | trivial⟩
                  case measure => simp [intOf]; omega
            · obtain rfl : q = i := by omega
              have hlt3 : ¬ (q : Int) < (q : Int) := by omega
              obtain ⟨hL1, hL2⟩ := hbi.out.last HO.out hkN
              rw [← hSk.out] at hL1 hL2
              by_cases hkk : k < K
              · obtain ⟨o, hoo⟩ : ∃ o, o = od.getD k 0 := ⟨_, rfl⟩
                have hoN : o < q := by rw [hoo]; exact HO.out.get hkN
                obtain rfl : b = (o : Int) := by rw [hoo]; exact hL1 (hstop.out.1 hkk)
                have hon : decide ((o : Int) < 0) = false := decide_eq_false (by omega)
                have hoI : (o : Int) < (q : Int) := by omega
                obtain ⟨b0, f0, rfl, kx⟩ := HRw.out.atZ (show o < xs.length by rw [← HN.out]; exact hoN)
                obtain ⟨X, hX⟩ : ∃ X, X = x o := ⟨_, rfl⟩
                rw [HX.out o, ← hX] at kx
                have hoc : o < cap := by omega
                obtain ⟨S1, hS1⟩ : ∃ S1, S1 = T x od (k + 1) := ⟨_, rfl⟩
                have hT1 := T_bd HO.out HXB.out (q - (k + 1)) (k + 1) (by omega)
                have hSS : S - X = S1 := by rw [hSk.out, T_next HO.out hkN, hS1, hX, hoo]; omega
                rw [← hS1] at hT1
                have hSw : IntKind.i64.wrap S1 = S1 := IntWalk.i64_in _ (by omega)
                obtain ⟨M1, hM1⟩ : ∃ M1, M1 = Mk - 1 := ⟨_, rfl⟩
                have hMM : Mk - 1 = M1 := hM1.symm
                have hMw : IntKind.i64.wrap M1 = M1 := IntWalk.i64_in _ (by omega)
                have HM1 : Hid (M1 = (m : Int) - ((k + 1 : Nat) : Int)) := by have := hMk.out; unfold Hid; omega
                have HM1b : Hid (M1 < Mk) := by unfold Hid; omega
                have HS1 := Lib.hid hS1
                obtain ⟨v0, hv0⟩ : ∃ v, _ = some v := ⟨_, (hown.out.cellAt o (by omega)).trans (List.getElem?_eq_getElem (by rw [bl_len]; omega))⟩
                have hf0 := hown.out.frozenAt o
                obtain ⟨hst, _⟩ := hown.out.stored o (.bool true)
                rw [hoo, bl_set od k q (by rw [HO.out.len]; exact hkN), ← hoo] at hst
                have HST := Lib.hid hst
                have HBS := Lib.hid (Below.setCell (p := ⟨gi, o, none⟩) hbw.out (show w.heap.size ≤ gi by rw [HGI.out]; exact Nat.le_refl _) (.bool true))
                have kx2 : (wr.setCell ⟨gi, o, none⟩ (.bool true)).cell? ⟨b0, f0 + o, none⟩ = some (.int .i64 X) := by
                  obtain ⟨b', f', e', kj⟩ := (HR.out.below HBS.out).atZ (show o < xs.length by rw [← HN.out]; exact hoN)
                  cases e'
                  rw [kj, HX.out o, hX]
                clear hX hoo hS1 hM1 hst hL1 hL2 hbi hstop hTb
                go_wp2_with fail
                go_roundw
                case rel => exact ⟨k + 1, M1, S1, by omega, rfl, rfl, HM1, HS1, HST, HBS⟩
                case measure => have := HM1b.out; simp [intOf]; omega
              · obtain rfl : b = -1 := hL2 (fun h => hkk (hstop.out.2 h))
                have hkk2 : Hid (k = K) := by unfold Hid; omega
                have FIN : Hid (∀ e, e = .returned (.tuple #[.slice (some ⟨gi, 0, none⟩) q q, .int .i64 S, .int .i64 Mk]) → CtPost x od m K q w e wr) := fun e he => ⟨gi, by rw [he, hSk.out, hMk.out, hkk2.out], by rw [← HGI.out, ← hkk2.out]; exact hown.out, hbw.out⟩
                clear hL1 hL2 hbi hstop hTb
                go_wp2_with fail
                refine bodyPost_ret (v := .tuple #[.slice (some ⟨gi, 0, none⟩) q q, .int .i64 S, .int .i64 Mk]) (by simp [results, Tryz.results32, go_sem]) rfl ?_
                exact FIN.out _ rfl
        · have hpos' : ¬ (0 : Int) < Mk := hpos
          have hkk2 : Hid (k = K) := by have := hMk.out; unfold Hid; omega
          have FIN : Hid (∀ e, e = .returned (.tuple #[.slice (some ⟨gi, 0, none⟩) i i, .int .i64 S, .int .i64 Mk]) → CtPost x od m K i w e wr) := fun e he => ⟨gi, by rw [he, hSk.out, hMk.out, hkk2.out], by rw [← HGI.out, ← hkk2.out]; exact hown.out, hbw.out⟩
          go_wp2_with fail
          refine bodyPost_ret (v := .tuple #[.slice (some ⟨gi, 0, none⟩) i i, .int .i64 S, .int .i64 Mk]) (by simp [results, Tryz.results32, go_sem]) rfl ?_
          exact FIN.out _ rfl
end Go.Proofs.YtmhjimcdiglpcaaGreat.Dr
/- The reference's Inclusion. -/
namespace Go.Proofs.YtmhjimcdiglpcaaGreat.Dr
open Go.RowKit Go.Sort C6

theorem Inc.snoc {w : World} {N : Nat} {rs : List RV} {Q : Nat → Rat} {r : RV} (h : Inc w N rs (fun u => some (Q u))) (hr : CQ 0 w r.s r.ao r.n r.ca r.bo r.m r.cb (Q N) 2) : Inc w (N + 1) (rs ++ [r]) (fun u => some (Q u)) := by
  refine ⟨by rw [List.length_append, h.1]; rfl, fun u hu q hq => ?_⟩
  by_cases e : u < N
  · rw [getD_snoc_lt _ _ _ _ (by rw [h.1]; exact e)]
    exact h.2 u e q hq
  · have e2 : u = N := by omega
    subst e2
    have e3 : (rs ++ [r]).getD u RV.nil = r := by have := getD_snoc_eq rs r RV.nil; rwa [h.1] at this
    rw [e3, ← Option.some.inj hq]
    exact hr
theorem inc_set {w : World} {N g : Nat} {rs : List RV} {P : Nat → Option Rat} {cur : Array Value} (h : Inc w N rs P) (hg : w.heap[g]? = some (.cells cur 35 (0, 0))) (j : Nat) (v : Value) : Inc (w.setCell ⟨g, j, none⟩ v) N rs P ∧ ∃ cur', (w.setCell ⟨g, j, none⟩ v).heap[g]? = some (.cells cur' 35 (0, 0)) := by
  refine ⟨⟨h.1, fun u hu q hq => ?_⟩, ⟨_, by simp [World.setCell, Array.getElem?_modify, hg]; rfl⟩⟩
  obtain ⟨h1, h2, h3, h4, h5, h6⟩ := h.2 u hu q hq
  exact ⟨h1, h2, h3, h4.setne hg (by decide), h5.setne hg (by decide), h6⟩
theorem RdN.nil (w : World) (Q : Nat → Rat) : RdN w none 0 0 Q := ⟨[], rfl, ⟨by simp, by omega, .inl ⟨rfl, fun _ => rfl⟩⟩, rfl, fun u hu => by omega⟩

set_option maxHeartbeats 4000000 in
theorem rInclusion_bad (xs : List Int) (n : Int) (ao : Option Addr) (cap : Nat) (w : World) (h19 : xs.length ≤ 19) (hr : RdZ w ao cap xs) (hE : drE xs n ≠ 0) :
    Calls Tryz.prog 10 #[.slice ao xs.length cap, .int .i64 n] w fun e w' => e = .returned (.tuple #[.slice none 0 0, .int .i64 (drE xs n)]) ∧ Below w.heap.size w w' := by
  have CK := Lib.hid (checked_v xs n ao cap w h19 hr)
  obtain ⟨E, hEE⟩ : ∃ E, E = drE xs n := ⟨_, rfl⟩
  obtain ⟨N, hN⟩ : ∃ N, N = xs.length := ⟨_, rfl⟩
  unfold Hid at CK
  rw [← hEE] at CK hE ⊢
  rw [← hN] at CK ⊢
  have CK := Lib.hid CK
  have hEb : (E != 0) = true := bne_iff_ne.2 hE
  clear hEE hE hN hr h19
  go_enter Tryz.func10, Tryz.ntmps10
  go_wp2_with fail
  refine CK.out.mono ?_; rintro e w2 ⟨rfl, rfl⟩
  go_wp2_with fail
  refine bodyPost_ret (v := .tuple #[.slice none 0 0, .int .i64 E]) (by simp [results, Tryz.results10, go_sem]) rfl ?_
  exact ⟨rfl, Below.refl _ _⟩

set_option maxHeartbeats 16000000 in
set_option maxRecDepth 100000 in
theorem rInclusion_ok (xs : List Int) (od : List Nat) (m K : Nat) (ao : Option Addr) (cap : Nat) (w : World) (hv : szs xs = true) (h19 : xs.length ≤ 19) (hm : m ≤ xs.length) (ho : Ord xs.length (fx xs) od) (hK : Cert xs.length (fx xs) od m K) (hr : RdZ w ao cap xs) (hE : drE xs (m : Int) = 0) :
    Calls Tryz.prog 10 #[.slice ao xs.length cap, .int .i64 (m : Int)] w fun e w' => ∃ a c, e = .returned (.tuple #[.slice a xs.length c, .int .i64 0]) ∧ RdN w' a c xs.length (incQ (fx xs) od K ((m : Int) - (K : Int))) ∧ Below w.heap.size w w' := by
  obtain ⟨i0, hi, hz0, hz1, hz2⟩ := info_partsr infoRatio
  have CK := Lib.hid (checked_v xs (m : Int) ao cap w h19 hr)
  have CT := Lib.hid (certain_v xs od m K ao cap w hv h19 hm ho hK hr)
  have hx0 : ∀ i, i < xs.length → 1 ≤ fx xs i ∧ fx xs i ≤ 1099511627776 := fun i hi => szs_at hv hi
  have hKm := hK.K_le ho hx0
  have hKN := hK.le
  obtain ⟨Q, hQ⟩ : ∃ Q, Q = incQ (fx xs) od K ((m : Int) - (K : Int)) := ⟨_, rfl⟩
  obtain ⟨M0, hM0⟩ : ∃ M : Int, M = (m : Int) - (K : Int) := ⟨_, rfl⟩
  obtain ⟨A, hA⟩ : ∃ A, A = T (fx xs) od K := ⟨_, rfl⟩
  have AB := Lib.hid (T_bd ho hx0 (xs.length - K) K (by omega))
  have QC : Hid (∀ u, u ∈ od.take K → Q u = 1) := fun u hu => by rw [hQ, incQ, if_pos hu]
  have QO : Hid (∀ u, ¬ u ∈ od.take K → Q u = fq (fx xs u * M0) A) := fun u hu => by rw [hQ, incQ, if_neg hu, hM0, hA]
  obtain ⟨N, hN⟩ : ∃ N, N = xs.length := ⟨_, rfl⟩
  have HOUT : Hid (∀ u, u < N → ¬ u ∈ od.take K → K < N) := fun u hu hn => by
    by_cases e : K < N
    · exact e
    · exfalso
      apply hn
      rw [List.take_of_length_le (by rw [ho.len, ← hN]; omega)]
      exact ho.mem (by rw [← hN]; exact hu)
  unfold CtPost at CT
  unfold Hid at CK CT AB
  rw [← hA] at CT AB
  rw [← hM0] at CT
  rw [hE] at CK
  rw [← hQ]
  rw [← hN] at CK CT AB h19 hm hKN ⊢
  have CK := Lib.hid CK
  have CT := Lib.hid CT
  have AB := Lib.hid AB
  have hl1 : N ≤ cap := by have := hr.1; rw [intz_length, ← hN] at this; exact this
  have hl2 := hr.2.1
  have HX : Hid (∀ i, xs.getD i 0 = fx xs i) := fun i => rfl
  obtain ⟨x, hxx⟩ : ∃ x, x = fx xs := ⟨_, rfl⟩
  unfold Hid at HX QO
  rw [← hN] at hx0
  rw [← hxx] at HX QO hx0
  have HX := Lib.hid HX
  have QO := Lib.hid QO
  have HXB : Hid (∀ i, i < N → 1 ≤ x i ∧ x i ≤ 1099511627776) := hx0
  have HN := Lib.hid hN
  have HR := Lib.hid hr
  have hMb : 0 ≤ M0 ∧ M0 ≤ 19 := by omega
  have E0 : ((0 : Int) != 0) = false := rfl
  have ON : Hid (∀ w', Calls Tryz.prog 12 #[] w' (MakesQ 1 2 w')) := fun w' => rOne_q w'
  clear hv hx0 hxx hN hr ho hK hQ hM0 hA hE hKm
  go_enter Tryz.func10, Tryz.ntmps10
  go_wp2_with fail
  refine CK.out.mono ?_; rintro e w2 ⟨rfl, rfl⟩
  go_wp2_with fail
  refine CT.out.mono ?_; rintro e W2 ⟨gs, rfl, hown2, b2⟩
  have HS2 : Hid (∀ w', Below W2.heap.size W2 w' → ∀ i, i < N → w'.cell? ⟨gs, i, none⟩ = some (.bool (decide (i ∈ od.take K)))) := fun w' hb i hi => by
    have h := (hown2.cellAt i (by omega)).trans (bl_at od K N i hi)
    exact (hb.cell (World.block_lt_of_cell? _ _ h)).trans h
  have HB2 := Lib.hid b2
  have HR2 : Hid (∀ w', Below W2.heap.size W2 w' → RdZ w' ao cap xs) := fun w' hb => HR.out.below (HB2.out.trans (hb.mono HB2.out.size))
  clear hown2 b2 CK CT
  obtain ⟨M, hM⟩ : ∃ M, M = W2.heap.size := ⟨_, rfl⟩
  have HMM := Lib.hid hM
  clear hM
  go_wp2_with fail
  go_loopw [29, 10] (fun s29 s10 wr => ∃ (i : Nat) (v : Value) (rs : List RV), i ≤ N ∧ s29 = .int .i64 (i : Int) ∧ v = s10 ∧ Hid (wr.ownsRow M 35 3 v i (rvs rs)) ∧ Hid (Inc wr i rs (fun u => some (Q u))) ∧ Hid (Below M W2 wr)) (fun s29 _ _ => N - (intOf s29).toNat)
  case atStart => exact ⟨0, _, [], by omega, rfl, rfl, World.ownsRow_nil _ _ _ _, (show Inc _ 0 [] _ from ⟨rfl, fun u hu => by omega⟩), Below.refl _ _⟩
  case round =>
    obtain ⟨i, v, rs, hiN, rfl, rfl, hown, hinc, hbl⟩ := hrel
    have hbl2 : Hid (Below W2.heap.size W2 wr) := by rw [← HMM.out]; exact hbl.out
    by_cases hlt : i < N
    · have hlt2 : (i : Int) < (N : Int) := by omega
      obtain ⟨b, f0, rfl, kx⟩ := (HR2.out _ hbl2.out).atZ (show i < xs.length by rw [← HN.out]; exact hlt)
      obtain ⟨X, hX⟩ : ∃ X, X = x i := ⟨_, rfl⟩
      have hXb : 1 ≤ X ∧ X ≤ 1099511627776 := by rw [hX]; exact HXB.out i hlt
      rw [HX.out i, ← hX] at kx
      have HXI := Lib.hid hX
      clear hX
      have hwM : M ≤ wr.heap.size := by rw [HMM.out]; exact hbl2.out.size
      go_wp2_with fail
      refine (ON.out _).mono ?_; rintro e w4 ⟨s4, a4, n4, c4, o4, m4, d4, rfl, cq4, b4⟩
      obtain ⟨W5, hW5⟩ : ∃ W, W = w4.alloc (.cells #[.bool s4, .slice a4 n4 c4, .slice o4 m4 d4] 35) := ⟨_, rfl⟩
      obtain ⟨g5, hg5⟩ : ∃ g, g = w4.heap.size := ⟨_, rfl⟩
      have b5 : Below w4.heap.size w4 W5 := by rw [hW5]; exact below_new _ _
      have x5 : Hid (W5.heap[g5]? = some (.cells #[.bool s4, .slice a4 n4 c4, .slice o4 m4 d4] 35 (0, 0))) := by rw [hW5, hg5]; exact heap_alloc_new _ _
      have b45 := b4.trans (b5.mono b4.size)
      have hown5 := Lib.hid (row_below hown.out b45)
      have hinc5 := Lib.hid (hinc.out.below b45)
      have cq5 := Lib.hid ((cq4.below b5).mono (Nat.zero_le _))
      have HB5 : Hid (Below M W2 W5) := hbl.out.trans (b45.mono hwM)
      have hM5 : Hid (M ≤ W5.heap.size) := Nat.le_trans hwM b45.size
      have ks := HS2.out W5 (by rw [← HMM.out]; exact HB5.out) i hlt
      have hg5w : Hid (M ≤ g5) := by unfold Hid; rw [hg5]; exact Nat.le_trans hwM b4.size
      have HVB : Hid (∀ k, v.ownBlock = some k → k < g5) := fun k e => by have := (hown.out.lt k e).2; have := b4.size; omega
      clear kx cq4 b4 b5 b45 hown hinc hbl hbl2 hwM
      go_upto_region 10 with fail
      rw [← hW5]
      try rw [← hg5]
      clear hW5 hg5
      by_cases hin : i ∈ od.take K
      · rw [decide_eq_true hin] at ks
        have x7 := x5
        have CQ7 : Hid (CQ 0 W5 s4 a4 n4 c4 o4 m4 d4 (Q i) 2) := by rw [QC.out i hin]; exact cq5.out
        have hown7 := hown5
        have hinc7 := hinc5
        have HB7 := HB5
        have hM7 : M ≤ W5.heap.size := hM5.out
        clear hin cq5 hown5 hinc5 HB5 x5 hM5
        obtain ⟨p0, p1, p2, z0, z1, z2⟩ := at_block x7.out
        go_upto_region 12 with fail
        clear p0 p1 p2 z0 z1 z2 ks
        obtain ⟨j0, j1, j2, _⟩ := at_block x7.out
        go_wp2_with (at_builtin; refine wpList_append_own _ rfl _ _ 38 rfl M 35 i0 (.agg #[.bool false, .slice none 0 0, .slice none 0 0]) 3 56 Tryz.underlying38 hi hz0 hz1 hz2 rfl (by omega) _ _ _ rfl (hown7.out.alloc _) ⟨W5.heap.size, 0, none⟩ 1 1 [.bool s4, .slice a4 n4 c4, .slice o4 m4 d4] rfl rfl (three_cell _ _ _ _ _) (by intro u hu; simp at hu; rcases hu with rfl | rfl | rfl <;> rfl) (by unfold maxLen; omega) (by omega) (by simp; omega) ?_; intro v8 w8 hown8 hgr8 _)
        have nA := below_new W5 (.cells #[.bool s4, .slice a4 n4 c4, .slice o4 m4 d4] 35)
        have HI8 : Hid (Inc w8 (i + 1) (rs ++ [⟨s4, a4, n4, c4, o4, m4, d4⟩]) (fun u => some (Q u))) := ((hinc7.out.below nA).keep (hown7.out.alloc _) hgr8).snoc ((CQ7.out.below nA).keepRow3 (hown7.out.alloc _) hgr8)
        have HO8 : Hid (w8.ownsRow M 35 3 v8 (i + 1) (rvs (rs ++ [⟨s4, a4, n4, c4, o4, m4, d4⟩]))) := by unfold Hid; rw [rvs_append]; exact hown8
        have HB8 : Hid (Below M W2 w8) := HB7.out.trans ((nA.mono hM7).trans (rows_below (hown7.out.alloc _) (Nat.le_refl _) (by simp; omega) hgr8))
        clear nA hown8 hgr8 hown7 hinc7 HB7 CQ7 j0 j1 j2 x7
        go_wp2_with fail
        go_roundw
        case rel => exact ⟨i + 1, _, _, by omega, by go_num, rfl, HO8, HI8, HB8⟩
        case measure => simp [intOf]; omega
      · rw [decide_eq_false hin] at ks
        obtain ⟨P, hP⟩ : ∃ P, P = X * M0 := ⟨_, rfl⟩
        have hPb : 0 ≤ P ∧ P ≤ 1099511627776 * 19 := by
          rw [hP]
          exact ⟨Int.mul_nonneg (by omega) hMb.1, Int.mul_le_mul hXb.2 hMb.2 hMb.1 (by omega)⟩
        have hPw : IntKind.i64.wrap P = P := IntWalk.i64_in _ (by omega)
        have hPP : X * M0 = P := hP.symm
        have hKN2 := HOUT.out i hlt hin
        have hAb := AB.out
        have FR := Lib.hid (rFraction_q P A (by omega) (by omega) (by omega) (by omega) (by omega) W5)
        have hQi : Q i = rq (decide (P < 0) != decide (A < 0)) P.natAbs A.natAbs := by rw [QO.out i hin, ← HXI.out, ← hP]; rfl
        unfold Hid at FR
        rw [← hQi] at FR
        have FR := Lib.hid FR
        obtain ⟨p0, p1, p2, z0, z1, z2⟩ := at_block x5.out
        clear hP hin hQi
        go_wp2_with fail
        refine FR.out.mono ?_; rintro e w6 ⟨s7, a7, n7, c7, o7, m7, d7, rfl, cq6, b6⟩
        have x6 := carry x5.out b6
        obtain ⟨y0, y1, y2, t0, t1, t2⟩ := at_block x6
        obtain ⟨W7, hW7⟩ : ∃ W, W = ((w6.setCell ⟨g5, 0, none⟩ (.bool s7)).setCell ⟨g5, 1, none⟩ (.slice a7 n7 c7)).setCell ⟨g5, 2, none⟩ (.slice o7 m7 d7) := ⟨_, rfl⟩
        have x7 : Hid (W7.heap[g5]? = some (.cells #[.bool s7, .slice a7 n7 c7, .slice o7 m7 d7] 35 (0, 0))) := by rw [hW7]; exact set3_at x6 _ _ _
        have hg5n : g5 < W5.heap.size := (Array.getElem?_eq_some_iff.1 x5.out).1
        have CQ7 : Hid (CQ 0 W7 s7 a7 n7 c7 o7 m7 d7 (Q i) 2) := by rw [hW7]; exact (((((cq6.mono (B' := g5 + 1) (by omega)).set_at 0 _).set_at 1 _).set_at 2 _)).mono (Nat.zero_le _)
        have hgb7 : w6.grownBy W7 (some g5) := by rw [hW7]; exact gb_trans (gb_trans (gbs _ _ _ _) (gbs _ _ _ _)) (gbs _ _ _ _)
        have hown7 : Hid (W7.ownsRow M 35 3 v i (rvs rs)) := (row_below hown5.out b6).kept hgb7 (by
          cases hk : v.ownBlock with
          | none => exact .inl rfl
          | some k => exact .inr (fun q => by have := HVB.out k hk; have := Option.some.inj q; omega))
        have hinc7 : Hid (Inc W7 i rs (fun u => some (Q u))) := by
          obtain ⟨h1, c1, e1⟩ := inc_set (hinc5.out.below b6) x6 0 (.bool s7)
          obtain ⟨h2, c2, e2⟩ := inc_set h1 e1 1 (.slice a7 n7 c7)
          obtain ⟨h3, c3, e3⟩ := inc_set h2 e2 2 (.slice o7 m7 d7)
          rw [hW7]; exact h3
        have hM7 : M ≤ W7.heap.size := Nat.le_trans (Nat.le_trans hM5.out b6.size) hgb7.size
        have HB7 : Hid (Below M W2 W7) := HB5.out.trans ((b6.mono hM5.out).trans (row_gb hgb7 (Nat.le_trans hM5.out b6.size) (fun k e => by cases e; exact hg5w.out)))
        clear p0 p1 p2 z0 z1 z2 x6 cq6 b6 hgb7 hown5 hinc5 HB5 cq5 x5 hM5 hg5n
        go_upto_region 12 with fail
        rw [← hW7]
        clear hW7 y0 y1 y2 t0 t1 t2 ks
        obtain ⟨j0, j1, j2, _⟩ := at_block x7.out
        go_wp2_with (at_builtin; refine wpList_append_own _ rfl _ _ 38 rfl M 35 i0 (.agg #[.bool false, .slice none 0 0, .slice none 0 0]) 3 56 Tryz.underlying38 hi hz0 hz1 hz2 rfl (by omega) _ _ _ rfl (hown7.out.alloc _) ⟨W7.heap.size, 0, none⟩ 1 1 [.bool s7, .slice a7 n7 c7, .slice o7 m7 d7] rfl rfl (three_cell _ _ _ _ _) (by intro u hu; simp at hu; rcases hu with rfl | rfl | rfl <;> rfl) (by unfold maxLen; omega) (by omega) (by simp; omega) ?_; intro v8 w8 hown8 hgr8 _)
        have nA := below_new W7 (.cells #[.bool s7, .slice a7 n7 c7, .slice o7 m7 d7] 35)
        have HI8 : Hid (Inc w8 (i + 1) (rs ++ [⟨s7, a7, n7, c7, o7, m7, d7⟩]) (fun u => some (Q u))) := ((hinc7.out.below nA).keep (hown7.out.alloc _) hgr8).snoc ((CQ7.out.below nA).keepRow3 (hown7.out.alloc _) hgr8)
        have HO8 : Hid (w8.ownsRow M 35 3 v8 (i + 1) (rvs (rs ++ [⟨s7, a7, n7, c7, o7, m7, d7⟩]))) := by unfold Hid; rw [rvs_append]; exact hown8
        have HB8 : Hid (Below M W2 w8) := HB7.out.trans ((nA.mono hM7).trans (rows_below (hown7.out.alloc _) (Nat.le_refl _) (by simp; omega) hgr8))
        clear nA hown8 hgr8 hown7 hinc7 HB7 CQ7 j0 j1 j2 x7
        go_wp2_with fail
        go_roundw
        case rel => exact ⟨i + 1, _, _, by omega, by go_num, rfl, HO8, HI8, HB8⟩
        case measure => simp [intOf]; omega
    · obtain rfl : i = N := by omega
      have hlt2 : ¬ (i : Int) < (i : Int) := by omega
      have hrl : rs.length = i := hinc.out.1
      obtain ⟨ra, rc, rfl, hrd⟩ := RdR.of_row hown.out
      have FIN : Hid (RdN wr ra rc i Q ∧ Below w2.heap.size w2 wr) := ⟨⟨rs, hrl, hrd, hinc.out⟩, HB2.out.trans (hbl2.out.mono HB2.out.size)⟩
      rw [hrl]
      clear hrl hrd hown hinc hbl hbl2
      go_wp2_with fail
      refine bodyPost_ret (v := .tuple #[.slice ra i rc, .int .i64 0]) (by simp [results, Tryz.results10, go_sem]) rfl ?_
      exact ⟨ra, rc, rfl, FIN.out.1, FIN.out.2⟩
end Go.Proofs.YtmhjimcdiglpcaaGreat.Dr
