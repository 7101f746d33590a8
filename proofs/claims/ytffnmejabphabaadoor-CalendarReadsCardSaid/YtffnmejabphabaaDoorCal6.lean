import Derived.Test.YtffnmejabphabaaDoorCal5
import Derived.Lib.ItoaMem
import Derived.Lib.AppendIntMem
/- Package calendar: dates; the texts of periods and dates; the sanity check of its laws. -/
namespace Go.Proofs.YtffnmejabphabaaDoor
open Go.RowKit Go.Sort

/-- the table of powers of ten reads as the program's text lays it -/
def Tab (w : World) : Prop := Lib.TabIs Tryd.prog w "internal/strconv.uint64pow10" .u64 Lib.pow10Tab
theorem Tab.below {w w' : World} (h : Tab w) (hb : Below w.heap.size w w') : Tab w' := (Lib.tabBelow_of_tabIs h) w' hb
theorem Tab.alloc {w : World} (h : Tab w) (o : Obj) : Tab (w.alloc o) := Lib.tabIs_alloc h o

/-- two digits -/
def tw (n : Nat) : List UInt8 := [UInt8.ofNat (48 + n / 10), UInt8.ofNat (48 + n % 10)]
/-- the bytes of a period's text -/
def perL (k r : Nat) : List UInt8 := tw ((1900 + k) / 100) ++ tw ((1900 + k) % 100) ++ [45] ++ tw (r + 1)
/-- the text of a period, of a date -/
def perT (k r : Nat) : ByteArray := ⟨(perL k r).toArray⟩
def dayT (k r d : Nat) : ByteArray := ⟨(perL k r ++ [45] ++ tw d).toArray⟩
theorem ret_strc {a b : ByteArray} (h : a = b) : Ending.returned (.string a) = .returned (.string b) := by rw [h]
theorem bs_app (a b : List UInt8) : (⟨a.toArray⟩ : ByteArray) ++ (⟨b.toArray⟩ : ByteArray) = ⟨(a ++ b).toArray⟩ := by
  apply ByteArray.ext
  simp
theorem dec_small {n : Nat} (h : n < 10) : Lib.decDigits n = [UInt8.ofNat (48 + n)] := by rw [Lib.decDigits, dif_pos h]
theorem dec_big {n : Nat} (h : 10 ≤ n) : Lib.decDigits n = Lib.decDigits (n / 10) ++ [UInt8.ofNat (48 + n % 10)] := by rw [Lib.decDigits, dif_neg (by omega)]
theorem dec_two {n : Nat} (h : 10 ≤ n) (h2 : n < 100) : Lib.decDigits n = tw n := by rw [dec_big h, dec_small (by omega)]; rfl
theorem dec_four {n : Nat} (h : 1000 ≤ n) (h2 : n < 10000) : Lib.decDigits n = tw (n / 100) ++ tw (n % 100) := by
  rw [dec_big (by omega), dec_big (by omega), dec_two (by omega) (by omega)]
  simp only [tw, List.cons_append, List.nil_append]
  rw [show n / 10 / 10 / 10 = n / 100 / 10 by omega, show n / 10 / 10 % 10 = n / 100 % 10 by omega, show n / 10 % 10 = n % 100 / 10 by omega, show n % 10 = n % 100 % 10 by omega]
theorem itoa_nat (n : Nat) : Lib.itoa (n : Int) = Lib.decDigits n := by
  unfold Lib.itoa
  rw [if_neg (by omega)]
  rfl

set_option maxHeartbeats 2000000 in
theorem twoDigits_v (n : Nat) (h : n < 100) (w : World) :
    Calls Tryd.prog 59 #[.int .i64 (n : Int)] w fun e w' => e = .returned (.string ⟨(tw n).toArray⟩) ∧ w = w' := by
  by_cases hs : n < 10
  · have hsi : decide ((n : Int) < 10) = true := by simp; omega
    have HT : Hid ((⟨#[48]⟩ : ByteArray) ++ ⟨[UInt8.ofNat (48 + n)].toArray⟩ = ⟨(tw n).toArray⟩) := by
      unfold Hid
      refine (bs_app [48] _).trans ?_
      simp only [tw, List.cons_append, List.nil_append]
      rw [show n / 10 = 0 by omega, show n % 10 = n by omega]
      rfl
    have hi := Tryd.strconv_Itoa_small n h
    rw [dec_small hs] at hi
    obtain ⟨u, hu⟩ : ∃ u, u = UInt8.ofNat (48 + n) := ⟨_, rfl⟩
    rw [← hu] at HT hi
    have HI := Lib.hid hi
    clear hi hu
    go_enter Tryd.func59, Tryd.ntmps59
    go_wp2_with fail
    refine (HI.out _).mono ?_; rintro e w' ⟨rfl, rfl⟩
    go_wp2_with fail
    go_ret
    exact ⟨ret_strc HT.out, rfl⟩
  · have hsi : decide ((n : Int) < 10) = false := by simp; omega
    have HT := Lib.hid (dec_two (n := n) (by omega) h)
    go_enter Tryd.func59, Tryd.ntmps59
    go_wp2_with fail
    refine (Tryd.strconv_Itoa_small n h _).mono ?_; rintro e w' ⟨rfl, rfl⟩
    go_wp2_with fail
    go_ret
    exact ⟨ret_strc (congrArg (fun l : List UInt8 => (⟨l.toArray⟩ : ByteArray)) HT.out), rfl⟩

set_option maxHeartbeats 4000000 in
theorem FormatPeriod_in (p : Int) (k r : Nat) (hp : p = 12 * (k : Int) + (r : Int)) (hr : r < 12) (hk : k < 500) (w : World) (htab : Tab w) :
    Calls Tryd.prog 40 #[.int .i64 p] w fun e w' => e = .returned (.string (perT k r)) ∧ Gr w w' := by
  have h0 : 0 ≤ p := by omega
  have h1 : p ≤ 5999 := by omega
  have HP := Lib.hid hp
  have hi := Tryd.strconv_Itoa (1900 + (k : Int)) (by omega) (by omega) w htab
  have hm := twoDigits_v (r + 1) (by omega)
  rw [show (1900 + (k : Int)) = ((1900 + k : Nat) : Int) by omega, itoa_nat, dec_four (by omega) (by omega), show ((1900 + k : Nat) : Int) = 1900 + (k : Int) by omega] at hi
  rw [show ((r + 1 : Nat) : Int) = (r : Int) + 1 by omega] at hm
  have HI := Lib.hid hi
  have HM := Lib.hid hm
  have HT : Hid ((⟨(tw ((1900 + k) / 100) ++ tw ((1900 + k) % 100)).toArray⟩ : ByteArray) ++ (⟨#[45]⟩ : ByteArray) ++ ⟨(tw (r + 1)).toArray⟩ = perT k r) := by
    exact (congrArg (· ++ (⟨(tw (r + 1)).toArray⟩ : ByteArray)) (bs_app _ [45])).trans (bs_app _ _)
  clear hp hi hm htab
  go_enter Tryd.func40, Tryd.ntmps40
  go_wp2_with fail
  refine (validPeriod_in _ h0 h1 _).mono ?_; rintro e w' ⟨rfl, rfl⟩
  go_wp2_with fail
  refine (yearOf_v _ k r HP.out hr hk _).mono ?_; rintro e w' ⟨rfl, rfl⟩
  go_wp2_with fail
  refine HI.out.mono ?_; rintro e w1 ⟨rfl, g⟩
  have G : Gr w w1 := g
  clear g
  go_wp2_with fail
  refine (Month_in _ k r HP.out hr hk _).mono ?_; rintro e w' ⟨rfl, rfl⟩
  go_wp2_with fail
  refine (HM.out _).mono ?_; rintro e w' ⟨rfl, rfl⟩
  go_wp2_with fail
  go_ret
  exact ⟨ret_strc HT.out, G⟩
theorem FormatPeriod_out (p : Int) (h : p < 0 ∨ 5999 < p) (w : World) :
    Calls Tryd.prog 40 #[.int .i64 p] w fun e w' => e = .returned (.string ⟨#[]⟩) ∧ w = w' := by
  go_enter Tryd.func40, Tryd.ntmps40
  go_wp2_with fail
  refine (validPeriod_out _ h _).mono ?_; rintro e w' ⟨rfl, rfl⟩
  go_wp2_with fail
  go_ret
  exact ⟨rfl, rfl⟩

set_option maxHeartbeats 8000000 in
theorem ValidDate_in (k r : Nat) (d : Int) (hk : k < 500) (hr : r < 12) (h1 : 1 ≤ d) (h2 : d ≤ mlI (1900 + (k : Int)) ((r : Int) + 1)) (w : World) :
    Calls Tryd.prog 14 #[.agg #[.int .i64 (1900 + (k : Int)), .int .i64 ((r : Int) + 1), .int .i64 d]] w fun e w' => e = .returned (.bool true) ∧ Below w.heap.size w w' := by
  have hm := mlI_bd (1900 + (k : Int)) ((r : Int) + 1)
  obtain ⟨y, hy⟩ : ∃ y : Int, y = 1900 + (k : Int) := ⟨_, rfl⟩
  obtain ⟨m, hmm⟩ : ∃ m : Int, m = (r : Int) + 1 := ⟨_, rfl⟩
  rw [← hy, ← hmm] at h2 hm ⊢
  have a5 : decide (1 ≤ d) = true := by simp; omega
  have a6 : decide (d ≤ mlI y m) = true := by simp; omega
  have b1 : 1900 ≤ y := by omega
  have b2 : y ≤ 2399 := by omega
  have b3 : 1 ≤ m := by omega
  have b4 : m ≤ 12 := by omega
  clear hy hmm hk hr h1 h2
  obtain ⟨W1, hW1⟩ : ∃ W1, W1 = w.alloc (.cells #[.int .i64 y, .int .i64 m, .int .i64 d] 23) := ⟨_, rfl⟩
  have B0 := below_new w (.cells #[.int .i64 y, .int .i64 m, .int .i64 d] 23)
  have c0 : W1.cell? ⟨w.heap.size, 0, none⟩ = some (.int .i64 y) := by rw [hW1]; exact World.cell?_alloc_mark w _ _ (0, 0) 0
  have c1 : W1.cell? ⟨w.heap.size, 1, none⟩ = some (.int .i64 m) := by rw [hW1]; exact World.cell?_alloc_mark w _ _ (0, 0) 1
  have c2 : W1.cell? ⟨w.heap.size, 2, none⟩ = some (.int .i64 d) := by rw [hW1]; exact World.cell?_alloc_mark w _ _ (0, 0) 2
  have K : Hid (∀ w', Gr W1 w' → w'.cell? ⟨w.heap.size, 0, none⟩ = some (.int .i64 y) ∧ w'.cell? ⟨w.heap.size, 1, none⟩ = some (.int .i64 m) ∧ w'.cell? ⟨w.heap.size, 2, none⟩ = some (.int .i64 d) ∧ Gr W1 w') := fun w' g => ⟨g.cell c0, g.cell c1, g.cell c2, g⟩
  have HL := Lib.hid (monthLength_v y m b1 b2 b3 b4)
  have HW := Lib.hid hW1
  go_enter Tryd.func14, Tryd.ntmps14
  go_wp2_with fail
  rw [← HW.out]
  rw [← hW1] at B0
  clear hW1
  go_region_held3 (fun w' => w'.cell? ⟨w.heap.size, 0, none⟩ = some (.int .i64 y) ∧ w'.cell? ⟨w.heap.size, 1, none⟩ = some (.int .i64 m) ∧ w'.cell? ⟨w.heap.size, 2, none⟩ = some (.int .i64 d) ∧ Gr W1 w')
    (first | exact K.out _ (Gr.refl _).drew | exact K.out _ (Gr.refl _) | exact K.out _ (Gr.trans (by assumption) g1))
    (first | (go_at_call 47; go_split_ands; refine (HL.out _).mono ?_; rintro e w1 ⟨rfl, g1⟩; have GW : Gr W1 w1 := Gr.trans (by assumption) g1))
  go_wp2_with fail
  go_ret
  exact ⟨rfl, B0.trans (GW.below.mono B0.size)⟩
end Go.Proofs.YtffnmejabphabaaDoor
