import Derived.Test.YtobiepkhommeaaaGreatDoorQtysB
import Derived.Test.YtobiepkhommeaaaGreatDoorTapes
import Derived.Test.YtobiepkhommeaaaGreatDoorNum
/- Quantities: what the laws on made quantities share. -/
namespace Go.Proofs.YtobiepkhommeaaaGreatDoor
open Go.RowKit Go.Sort C6

theorem qfmt_len (d c a : Int) : (qfmt d c a).length ≤ 200 := by
  by_cases h : qwhy d c a = 0
  · rw [qfmt_ok h]
    obtain ⟨h1, h2, h3, h4, h5, h6⟩ := qwhy_zero.1 h
    obtain ⟨m1, _, _⟩ := for_mem h1 h2 h5
    have ha := qa_le h3 h5 h6
    have hz := (un_size m1).1
    have hn := (un_name m1).2.2.2
    have ht := numText_len a.toNat (forU d a).size.toNat (by omega) (by omega)
    have hd : (Lib.decDigits c.toNat).length ≤ 3 := by
      by_cases k : c.toNat = 0
      · rw [k, dec_small (by omega)]; simp
      · have := dec_len_le 2 c.toNat (by omega); omega
    unfold fmtQ qtext
    have hx : sepX.length = 3 := rfl
    split
    · simp only [List.length_append, List.length_cons, hx]; omega
    · simp only [List.length_append, List.length_cons]; omega
  · rw [qfmt_bad h]; simp
/-- a row of two quantities -/
theorem rowQ2 {w : World} {g : Nat} {d c a d' c' a' : Int} {t : TypeId} (h : w.heap[g]? = some (.cells #[.int .i64 d, .int .i64 c, .int .i64 a, .int .i64 d', .int .i64 c', .int .i64 a'] t (0, 0))) (h1 : QB d c a) (h2 : QB d' c' a') {i : Nat} (hi : i < 2) : ∃ x y z, w.cell? ⟨g, i * 3, none⟩ = some (.int .i64 x) ∧ w.cell? ⟨g, i * 3 + 1, none⟩ = some (.int .i64 y) ∧ w.cell? ⟨g, i * 3 + 2, none⟩ = some (.int .i64 z) ∧ QB x y z := by
  have : i = 0 ∨ i = 1 := by omega
  rcases this with rfl | rfl
  · exact ⟨d, c, a, by simp [World.cell?, h], by simp [World.cell?, h], by simp [World.cell?, h], h1⟩
  · exact ⟨d', c', a', by simp [World.cell?, h], by simp [World.cell?, h], by simp [World.cell?, h], h2⟩

/-- Fold, with its value -/
def fold (v : Int) (k : Nat) : Nat := (IntKind.u64.wrap v).toNat % k
theorem Fold_det (v : Int) (k : Nat) (hk : 1 ≤ k) (hk2 : k ≤ 1000000) (n : Int) (hn : n = k) (w : World) :
    Calls Tryz.prog 26 #[.int .i64 v, .int .i64 n] w fun e w' => e = .returned (.int .i64 ((fold v k : Nat) : Int)) ∧ w = w' := by
  subst hn
  obtain ⟨u, hu⟩ : ∃ u : Nat, u = (IntKind.u64.wrap v).toNat := ⟨_, rfl⟩
  have hb : 0 ≤ IntKind.u64.wrap v ∧ IntKind.u64.wrap v ≤ 18446744073709551615 := by rw [IntKind.wrap_u64]; omega
  have hw : IntKind.u64.wrap v = (u : Int) := by omega
  have hub : (u : Int) ≤ 18446744073709551615 := by omega
  have hr : u % k < k := Nat.mod_lt _ (by omega)
  have he : (u : Int) % (k : Int) = ((u % k : Nat) : Int) := (Int.natCast_emod u k).symm
  have E : Hid ((u : Int) % (k : Int) = ((fold v k : Nat) : Int)) := by unfold Hid fold; rw [he, hu]
  have hrb0 : 0 ≤ (u : Int) % (k : Int) := by omega
  have hrb : (u : Int) % (k : Int) ≤ 1000000 := by omega
  have hmx : max (k : Int) 1 = (k : Int) := by omega
  clear hu hb he
  go_enter Tryz.func26, Tryz.ntmps26
  go_wp2
  go_ret
  exact ⟨ret_i64 E.out, rfl⟩
theorem fold_lt (v : Int) {k : Nat} (hk : 1 ≤ k) : fold v k < k := Nat.mod_lt _ hk

end Go.Proofs.YtobiepkhommeaaaGreatDoor
