import Derived.Test.YtgfcoljkkenacaaPrd6
import Derived.Maps.AppendAt
/- Layer 9: rows of bytes of a law's own; Fold. -/
namespace Go.Proofs.Ytgfcoljkkenacaa.P9
open Go.RowKit Go.Sort C6

set_option maxHeartbeats 4000000 in
theorem Fold_r (v : Int) (k : Nat) (hk : 1 ≤ k) (hk2 : k ≤ 1000000) (w : World) (n : Int) (hn : n = k) :
    Calls Try.prog 14 #[.int .i64 v, .int .i64 n] w fun e w' => ∃ r : Nat, e = .returned (.int .i64 (r : Int)) ∧ r < k ∧ w = w' := by
  subst hn
  obtain ⟨u, hu⟩ : ∃ u : Nat, u = (IntKind.u64.wrap v).toNat := ⟨_, rfl⟩
  have hb : 0 ≤ IntKind.u64.wrap v ∧ IntKind.u64.wrap v ≤ 18446744073709551615 := by rw [IntKind.wrap_u64]; omega
  have hw : IntKind.u64.wrap v = (u : Int) := by omega
  have hub : (u : Int) ≤ 18446744073709551615 := by omega
  have hr : u % k < k := Nat.mod_lt _ (by omega)
  have he : (u : Int) % (k : Int) = ((u % k : Nat) : Int) := (Int.natCast_emod u k).symm
  have E := Lib.hid he
  have hrb0 : 0 ≤ (u : Int) % (k : Int) := by omega
  have hrb : (u : Int) % (k : Int) ≤ 1000000 := by omega
  have hmx : max (k : Int) 1 = (k : Int) := by omega
  clear hu hb he
  go_enter Try.func14, Try.ntmps14
  go_wp2
  go_ret
  exact ⟨u % k, ret_i64 E.out, hr, rfl⟩

/-- bytes as values -/
def byv (l : List UInt8) : List Value := l.map fun b => Value.int .u8 (b.toNat : Int)
theorem byv_length (l : List UInt8) : (byv l).length = l.length := by simp [byv]
theorem byv_append (l m : List UInt8) : byv (l ++ m) = byv l ++ byv m := by simp [byv]
theorem byv_one' (l : List UInt8) : ∀ u ∈ byv l, u.oneCell' = true := by
  intro u hu
  simp [byv] at hu
  obtain ⟨b, _, rfl⟩ := hu
  rfl
abbrev OwB (w : World) (base : Nat) (a : Option Addr) (n c : Nat) (l : List UInt8) : Prop := w.ownsRow base 5 1 (.slice a n c) n (byv l)
theorem OwB.len {w : World} {base n c : Nat} {a : Option Addr} {l : List UInt8} (h : OwB w base a n c l) : l.length = n := by have := h.1; rw [byv_length] at this; omega
theorem OwB.cap {w : World} {base n c : Nat} {a : Option Addr} {l : List UInt8} (h : OwB w base a n c l) : n ≤ c ∧ c ≤ 9223372036854775807 := by
  rcases h.2 with ⟨e, h0⟩ | ⟨g, cap', cur, e, _, _, hnc, hcm, _, _⟩
  · cases e; omega
  · cases e; unfold maxLen at hcm; omega
theorem OwB.form {w : World} {base n c : Nat} {a : Option Addr} {l : List UInt8} (h : OwB w base a n c l) (h0 : 0 < n) : ∃ g, a = some ⟨g, 0, none⟩ ∧ g < w.heap.size ∧ base ≤ g ∧ ∀ j u, (byv l)[j]? = some u → w.cell? ((⟨g, 0, none⟩ : Addr).add j) = some u := by
  rcases h.2 with ⟨e, h0⟩ | ⟨g, cap', cur, e, _⟩
  · omega
  · cases e
    exact ⟨g, rfl, (h.lt g rfl).2, (h.lt g rfl).1, h.cells rfl⟩
theorem OwB.at {w : World} {base n c g : Nat} {l : List UInt8} (h : OwB w base (some ⟨g, 0, none⟩) n c l) {i : Nat} (hi : i < n) : w.cell? ⟨g, i, none⟩ = some (.int .u8 ((l.getD i 0).toNat : Int)) := by
  have hl := h.len
  rw [h.cellAt i (by omega)]
  simp [byv, List.getD, show i < l.length by omega]
theorem OwB.text {w : World} {base n c g : Nat} {l : List UInt8} (h : OwB w base (some ⟨g, 0, none⟩) n c l) : (convert 26 9 (.slice (some ⟨g, 0, none⟩) n c)).run Try.prog w = .ok (.string ⟨l.toArray⟩) w := by
  have := run_convert_bytes_back (P := Try.prog) w 26 9 5 ⟨g, 0, none⟩ c l Try.underlying26 Try.underlying5 Try.underlying9 (fun j hj => by
    rw [Addr.add_lit, Nat.zero_add, h.at (by have := h.len; omega)]
    simp [List.getD, hj])
  rwa [h.len] at this
theorem OwB.set {w : World} {base n c g : Nat} {l : List UInt8} (h : OwB w base (some ⟨g, 0, none⟩) n c l) {i : Nat} (_ : i < n) (x : UInt8) : OwB (w.setCell ⟨g, i, none⟩ (.int .u8 (x.toNat : Int))) base (some ⟨g, 0, none⟩) n c (l.set i x) := by
  have := (h.stored i (.int .u8 (x.toNat : Int))).1
  unfold OwB
  have e : byv (l.set i x) = (byv l).set i (.int .u8 (x.toNat : Int)) := by simp [byv, List.map_set]
  rw [e]
  exact this
theorem one_u8 (x : UInt8) : ∀ u ∈ [Value.int .u8 (x.toNat : Int)], u.oneCell' = true := byv_one' [x]
end Go.Proofs.Ytgfcoljkkenacaa.P9
