import Derived.Test.YtffnmejabphabaaDoorCal8
/- Package calendar and its reference: the texts of dates and periods. -/
namespace Go.Proofs.YtffnmejabphabaaDoor
open Go.RowKit Go.Sort

theorem tw_len (n : Nat) : (tw n).length = 2 := rfl
theorem digit_byte (a : Nat) (h : a < 10) : (UInt8.ofNat (48 + a)).toNat = 48 + a := by
  rw [UInt8.toNat_ofNat']; omega
set_option maxHeartbeats 4000000 in
theorem two_v (n : Int) (k : Nat) (hn : n = (k : Int)) (hk : k < 100) (w : World) :
    Calls Tryd.prog 61 #[.int .i64 n] w fun e w' => e = .returned (.string ⟨(tw k).toArray⟩) ∧ Below w.heap.size w w' := by
  have h0 : 0 ≤ n := by omega
  have h1 : n ≤ 99 := by omega
  have hcv : (convert 51 9 (.slice (some ⟨w.heap.size, 0, none⟩) 2 2)).run Tryd.prog (w.alloc (.cells #[.int .u8 (48 + n / 10), .int .u8 (48 + n % 10)] 5)) =
      .ok (.string ⟨(tw k).toArray⟩) (w.alloc (.cells #[.int .u8 (48 + n / 10), .int .u8 (48 + n % 10)] 5)) := by
    refine run_convert_bytes_back (P := Tryd.prog) (w.alloc (.cells #[.int .u8 (48 + n / 10), .int .u8 (48 + n % 10)] 5)) 51 9 5 ⟨w.heap.size, 0, none⟩ 2 (tw k) Tryd.underlying51 Tryd.underlying5 Tryd.underlying9 (fun j hj => ?_)
    have e0 : (48 + n / 10 : Int) = ((UInt8.ofNat (48 + k / 10)).toNat : Int) := by rw [digit_byte _ (by omega)]; omega
    have e1 : (48 + n % 10 : Int) = ((UInt8.ofNat (48 + k % 10)).toNat : Int) := by rw [digit_byte _ (by omega)]; omega
    rw [Addr.add_lit, Nat.zero_add]
    rw [tw_len] at hj
    match j, hj with
    | 0, _ => rw [World.cell?_alloc_mark w _ _ (0, 0) 0, e0]; rfl
    | 1, _ => rw [World.cell?_alloc_mark w _ _ (0, 0) 1, e1]; rfl
  have B0 := below_new w (.cells #[.int .u8 (48 + n / 10), .int .u8 (48 + n % 10)] 5)
  have HC := Lib.hid hcv
  clear hn hcv
  go_enter Tryd.func61, Tryd.ntmps61
  have hcv := HC.out
  go_wp2_with fail
  go_ret
  exact ⟨rfl, B0⟩

set_option maxHeartbeats 4000000 in
theorem rFormatPeriod_in (p : Int) (k r : Nat) (hp : p = 12 * (k : Int) + (r : Int)) (hr : r < 12) (hk : k < 500) (w : World) :
    Calls Tryd.prog 42 #[.int .i64 p] w fun e w' => e = .returned (.string (perT k r)) ∧ Below w.heap.size w w' := by
  have h0 : 0 ≤ p := by omega
  have h1 : p ≤ 5999 := by omega
  have a1 := two_v ((1900 + p / 12) / 100) ((1900 + k) / 100) (by omega) (by omega)
  have a2 := two_v ((1900 + p / 12) % 100) ((1900 + k) % 100) (by omega) (by omega)
  have a3 := two_v (p % 12 + 1) (r + 1) (by omega) (by omega)
  have A1 := Lib.hid a1
  have A2 := Lib.hid a2
  have A3 := Lib.hid a3
  have HT : Hid ((⟨(tw ((1900 + k) / 100)).toArray⟩ : ByteArray) ++ (⟨(tw ((1900 + k) % 100)).toArray⟩ : ByteArray) ++ (⟨#[45]⟩ : ByteArray) ++ ⟨(tw (r + 1)).toArray⟩ = perT k r) := by
    unfold Hid perT perL
    rw [bs_app]
    exact (congrArg (· ++ (⟨(tw (r + 1)).toArray⟩ : ByteArray)) (bs_app _ [45])).trans (bs_app _ _)
  clear hp a1 a2 a3
  go_enter Tryd.func42, Tryd.ntmps42
  go_wp2_with fail
  refine (A1.out _).mono ?_; rintro e w1 ⟨rfl, b1⟩
  go_wp2_with fail
  refine (A2.out _).mono ?_; rintro e w2 ⟨rfl, b2⟩
  go_wp2_with fail
  refine (A3.out _).mono ?_; rintro e w3 ⟨rfl, b3⟩
  go_wp2_with fail
  go_ret
  exact ⟨ret_strc HT.out, keepC (keepC b1 b2) b3⟩
theorem rFormatPeriod_out (p : Int) (h : p < 0 ∨ 5999 < p) (w : World) :
    Calls Tryd.prog 42 #[.int .i64 p] w fun e w' => e = .returned (.string ⟨#[]⟩) ∧ Below w.heap.size w w' := by
  rcases h with h | h
  all_goals
    go_enter Tryd.func42, Tryd.ntmps42
    go_wp2_with fail
    go_ret
    exact ⟨rfl, Below.refl _ _⟩
end Go.Proofs.YtffnmejabphabaaDoor
