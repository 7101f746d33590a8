/- append(s, make([]T, k)...) within the capacity of s: the zeros are stored behind the elements; nothing is drawn. -/
import Derived.Lib.AppendZerosOnto
namespace Go.Proofs.YtlgcflapgdkghabDoor
open Go.Lib

theorem run_append_in_zeros {P : Program} (w w' : World) (t tn ty e : TypeId) (i : TypeInfo) (z : Value) (kq kn : IntKind) (ht : P.underlying t = some (.slice e)) (htn : P.underlying tn = some (.int kn)) (hi : P.info? e = some i) (hz : i.zero = some z)
    (a : Addr) (sLen sCap : Nat)
    (k : Nat) (h0 : 0 < k) (hs : 0 < i.size) (hg : sLen + k ≤ sCap) (h63 : (k : Int) ≤ 9223372036854775807) (h48 : k * i.bytes ≤ 281474976710656)
    (hst : (storeCells (a.add (sLen * i.size)) (Builtin.zeroCells z.cells k).toList).run P w = .ok () w') :
    (Builtin.append_ #[t, tn] ty #[.slice (some a) sLen sCap, .int kq k]).run P w =
      .ok (.slice (some a) (sLen + k) sCap) w' := by
  have hk : k ≠ 0 := by omega
  have hw : IntKind.i64.wrap (k : Int) = k := by rw [IntKind.wrap_i64]; omega
  have h48i : ¬ (281474976710656 < (k : Int) * (i.bytes : Int)) := by
    rw [← Int.natCast_mul]
    omega
  have hneg : ¬ ((k : Int) < 0) := by omega
  have hns : ¬ (k * i.size = 0) := Nat.mul_ne_zero hk (by omega)
  simp [Builtin.append_, run_underlying ht, run_underlying htn, sizeOf, typeInfo, zeroValue, hi, hz, asInt, asIntOf, hw, hg, hneg, hns, h48i, hst]

theorem run_append_no_zeros {P : Program} (w : World) (t tn ty e : TypeId) (i : TypeInfo) (kq kn : IntKind) (ht : P.underlying t = some (.slice e)) (htn : P.underlying tn = some (.int kn)) (hi : P.info? e = some i)
    (sLen sCap : Nat) (hg : sLen ≤ sCap) :
    (Builtin.append_ #[t, tn] ty #[.slice none sLen sCap, .int kq 0]).run P w =
      .ok (.slice none sLen sCap) w := by
  have hw : IntKind.i64.wrap (0 : Int) = 0 := by rw [IntKind.wrap_i64]; omega
  simp [Builtin.append_, run_underlying ht, run_underlying htn, sizeOf, typeInfo, hi, asInt, asIntOf, hw, hg]

theorem run_append_zero_zeros {P : Program} (w w' : World) (t tn ty e : TypeId) (i : TypeInfo) (kq kn : IntKind) (ht : P.underlying t = some (.slice e)) (htn : P.underlying tn = some (.int kn)) (hi : P.info? e = some i)
    (a : Addr) (sLen sCap : Nat) (hg : sLen ≤ sCap)
    (hst : (storeCells (a.add (sLen * i.size)) []).run P w = .ok () w') :
    (Builtin.append_ #[t, tn] ty #[.slice (some a) sLen sCap, .int kq 0]).run P w =
      .ok (.slice (some a) sLen sCap) w' := by
  have hw : IntKind.i64.wrap (0 : Int) = 0 := by rw [IntKind.wrap_i64]; omega
  simp [Builtin.append_, run_underlying ht, run_underlying htn, sizeOf, typeInfo, hi, asInt, asIntOf, hw, hg, hst]
theorem zeroCells_one (u : Value) (k : Nat) : Builtin.zeroCells #[u] k = (List.replicate k u).toArray := by
  apply Array.ext
  · simp [Builtin.zeroCells]
  · intro j h1 h2
    simp [Builtin.zeroCells, Nat.mod_one]

/-- k zeros appended to an owned row -/
theorem run_append_own_zeros {P : Program} (w : World) (base : Nat) (t tn ty e : TypeId) (i : TypeInfo) (z u : Value) (kq kn : IntKind) (ht : P.underlying t = some (.slice e)) (htn : P.underlying tn = some (.int kn)) (hi : P.info? e = some i) (hz : i.zero = some z)
    (hs1 : i.size = 1) (hby : i.bytes = 4) (hzc : z.cells = #[u]) (hu : u.oneCell' = true)
    (v : Value) (n : Nat) (xs : List Value) (hown : w.ownsRow base e 1 v n xs) (k : Nat) (hnk : n + k ≤ 1000000) (hbase : base ≤ w.heap.size) :
    ∃ v' w', (Builtin.append_ #[t, tn] ty #[v, .int kq k]).run P w = .ok v' w' ∧ w'.ownsRow base e 1 v' (n + k) (xs ++ List.replicate k u) ∧ w.grownBy w' v.ownBlock := by
  have hx : xs.length = n := by simpa using hown.1
  have hkb : k * i.bytes ≤ 281474976710656 := by rw [hby]; omega
  have hlen : (xs ++ List.replicate k u).length = (n + k) * 1 := by simp [hx]
  have new : ∀ old, old < n + k → ∀ row,
      (w.drew.alloc (.cells (xs.toArray ++ Builtin.zeroCells z.cells k ++ Builtin.zeroCells z.cells (grownCap w (n + k) old e - (n + k))) e)).ownsRow base e 1
        (.slice (some ⟨w.heap.size, 0, none⟩) (n + k) (grownCap w (n + k) old e)) (n + k) (xs ++ List.replicate k u) ∧
      w.grownBy (w.drew.alloc (.cells (xs.toArray ++ Builtin.zeroCells z.cells k ++ Builtin.zeroCells z.cells (grownCap w (n + k) old e - (n + k))) e)) row := by
    intro old ho row
    have g1 := grownCap_ge w (n + k) old e
    have g2 := grownCap_le_maxLen w (n + k) old e (by simp only [maxLen]; omega)
    refine ⟨⟨hlen, .inr ⟨w.heap.size, _, _, rfl, hbase, heap_alloc_new w.drew _, g1, g2, ?_, ?_⟩⟩, ⟨rfl, rfl, rfl, by simp, fun b hb _ => heap_alloc_old w.drew _ b hb⟩⟩
    · rw [hzc, zeroCells_one, zeroCells_one]; simp [hx]; omega
    · rw [hzc, zeroCells_one, zeroCells_one]
      simp only [Array.toList_append]
      rw [← hlen]; exact List.take_left
  rcases hown.2 with ⟨rfl, rfl⟩ | ⟨g, cap, cur, rfl, hbg, hg, hnc, hcm, hcs, htake⟩
  · have hx0 : xs = [] := List.eq_nil_of_length_eq_zero hx
    subst hx0
    rcases Nat.eq_zero_or_pos k with rfl | hk
    · exact ⟨_, _, run_append_no_zeros w t tn ty e i kq kn ht htn hi 0 0 (Nat.le_refl _), ⟨by simp, .inl ⟨rfl, rfl⟩⟩, ⟨rfl, rfl, rfl, Nat.le_refl _, fun _ _ _ => rfl⟩⟩
    · have hr := run_append_nil_zeros (P := P) w t tn ty e i z kq kn ht htn hi hz k hk (by omega) (by omega) (by omega)
      have hn := new 0 (by omega) (Value.ownBlock (.slice none 0 0))
      simp only [Nat.zero_add, List.nil_append, Array.empty_append] at hn ⊢
      exact ⟨_, _, hr, hn.1, hn.2⟩
  · by_cases hroom : n + k ≤ cap
    · have hst := run_storeCells_at P g (n * i.size) e (List.replicate k u) 0 cur w hg (by simp [hs1]; omega) (by intro a ha; rw [List.eq_of_mem_replicate ha]; exact hu)
      have hadd : (⟨g, 0, none⟩ : Addr).add (n * i.size) = ⟨g, n * i.size, none⟩ := by simp [Addr.add_lit]
      have key : (Builtin.append_ #[t, tn] ty #[.slice (some ⟨g, 0, none⟩) n cap, .int kq k]).run P w = .ok (.slice (some ⟨g, 0, none⟩) (n + k) cap) (w.setRow g (cur.toList.take (n * i.size + 0) ++ List.replicate k u ++ cur.toList.drop (n * i.size + 0 + (List.replicate k u).length)).toArray) := by
        rcases Nat.eq_zero_or_pos k with rfl | hk
        · exact run_append_zero_zeros w _ t tn ty e i kq kn ht htn hi _ n cap (by omega) (by rw [hadd]; exact hst)
        · exact run_append_in_zeros w _ t tn ty e i z kq kn ht htn hi hz _ n cap k hk (by omega) hroom (by omega) (by omega) (by rw [hadd, hzc, zeroCells_one]; exact hst)
      refine ⟨_, _, key, ⟨hlen, .inr ⟨g, cap, _, rfl, hbg, setRow_heap w g cur _ e _ hg, hroom, hcm, ?_, ?_⟩⟩, ⟨rfl, rfl, rfl, by simp, fun b _ hb => setRow_other w g b _ (fun h => hb (by simp [Value.ownBlock, h]))⟩⟩
      · simp [hs1]; omega
      · rw [hs1]
        simp only [Nat.add_zero]
        rw [htake, ← hlen]
        exact List.take_left
    · have hold : ∀ j a, xs[j]? = some a → w.cell? ((⟨g, 0, none⟩ : Addr).add j) = some a := hown.cells (g := g) rfl
      have hf := run_firstCells_some (P := P) w.drew i.size n ⟨g, 0, none⟩ n cap xs (by rw [hs1]; simpa using hx) hold
      have hr := run_append_grow_zeros (P := P) w t tn ty e i z kq kn ht htn hi hz (some ⟨g, 0, none⟩) n cap xs hf k (by omega) (by omega) (by omega) (by omega) (by omega) (growslice_fits (by omega) (by rw [hby]; omega))
      have hn := new cap (by omega) (Value.ownBlock (.slice (some ⟨g, 0, none⟩) n cap))
      exact ⟨_, _, hr, hn.1, hn.2⟩
end Go.Proofs.YtlgcflapgdkghabDoor
