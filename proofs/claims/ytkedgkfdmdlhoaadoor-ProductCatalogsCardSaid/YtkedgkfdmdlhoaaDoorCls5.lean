import Derived.Test.YtkedgkfdmdlhoaaDoorCls1
/- The reference of package classification: Format. -/
namespace Go.Proofs.YtkedgkfdmdlhoaaDoor.C6
open Go.RowKit Go.Sort

/-- one byte as a string -/
theorem byte_str (w : World) (x : Int) (k : Nat) (hk : k < 10) (hx : x = 48 + (k : Int)) :
    (convert 60 9 (.slice (some ⟨w.heap.size, 0, none⟩) 1 1)).run Tryd.prog (w.alloc (.cells #[.int .u8 x] 5)) = .ok (.string ⟨[dg k].toArray⟩) (w.alloc (.cells #[.int .u8 x] 5)) := by
  refine run_convert_bytes_back (P := Tryd.prog) (w.alloc (.cells #[.int .u8 x] 5)) 60 9 5 ⟨w.heap.size, 0, none⟩ 1 [dg k] Tryd.underlying60 Tryd.underlying5 Tryd.underlying9 (fun j hj => ?_)
  have e0 : x = ((dg k).toNat : Int) := by rw [dg_nat hk]; omega
  rw [Addr.add_lit, Nat.zero_add]
  have : j = 0 := by simp at hj; omega
  subst this
  rw [World.cell?_alloc_mark w _ _ (0, 0) 0, e0]
  rfl
theorem txt_tw {p : List Nat} {n : Nat} (h : n < 100) : (p = [] → (⟨[dg (n / 10)].toArray⟩ : ByteArray) ++ (⟨[dg (n % 10)].toArray⟩ : ByteArray) = txt [n]) ∧
    (p ≠ [] → 10 ≤ n → txt p ++ (⟨#[46]⟩ : ByteArray) ++ (⟨[dg (n / 10)].toArray⟩ : ByteArray) ++ (⟨[dg (n % 10)].toArray⟩ : ByteArray) = txt (p ++ [n])) ∧
    (p ≠ [] → n < 10 → txt p ++ (⟨#[46]⟩ : ByteArray) ++ (⟨[dg (n % 10)].toArray⟩ : ByteArray) = txt (p ++ [n])) := by
  refine ⟨fun hp => ?_, fun hp h10 => ?_, fun hp h10 => ?_⟩
  · exact (bs_app _ _).trans (by simp [txt, cod, rest, tw])
  · refine (congrArg (· ++ (⟨[dg (n % 10)].toArray⟩ : ByteArray)) (bs3 (cod p) [46] [dg (n / 10)])).trans ((bs_app _ _).trans ?_)
    unfold txt
    rw [cod_snoc hp, sh_two h10]
    simp [tw]
  · refine (bs3 (cod p) [46] [dg (n % 10)]).trans ?_
    unfold txt
    rw [cod_snoc hp, sh_one h10, show n % 10 = n by omega]

end Go.Proofs.YtkedgkfdmdlhoaaDoor.C6
