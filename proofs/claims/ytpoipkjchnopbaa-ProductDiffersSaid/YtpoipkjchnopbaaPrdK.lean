import Derived.Test.YtpoipkjchnopbaaPrdS
import Derived.Lib.Join
/- Layer 9: the key of a product, as bytes. -/
namespace Go.Proofs.Ytpoipkjchnopbaa.P9

/-- an attribute in the key, with the bar ahead of it and without -/
def kv (x : Atr) : List UInt8 := x.1.data.toList ++ 61 :: x.2.data.toList
def kt (x : Atr) : List UInt8 := 124 :: kv x
def keyL (co br : List UInt8) (s : List Atr) : List UInt8 := co ++ 124 :: br ++ s.flatMap kt
theorem keyL_nil (co br : List UInt8) : keyL co br [] = co ++ 124 :: br := by simp [keyL]
theorem keyL_snoc (co br : List UInt8) (s : List Atr) (x : Atr) : keyL co br (s ++ [x]) = keyL co br s ++ kt x := by simp [keyL]
theorem keyL_join (co br : List UInt8) (s : List Atr) : Lib.join (co :: br :: s.map kv) [124] = keyL co br s := by
  rw [Lib.join_cons]
  unfold Lib.joinTail keyL
  simp [List.flatMap_def, List.map_map, Function.comp_def]
  rfl
theorem kt_length (x : Atr) (h1 : x.1.size ≤ 100) (h2 : x.2.size ≤ 100) : (kt x).length ≤ 202 := by
  unfold kt kv
  have e1 : x.1.data.toList.length = x.1.size := Array.length_toList
  have e2 : x.2.data.toList.length = x.2.size := Array.length_toList
  simp only [List.length_cons, List.length_append, e1, e2]
  omega
theorem keyL_length (co br : List UInt8) (s : List Atr) (h : ∀ x ∈ s, x.1.size ≤ 100 ∧ x.2.size ≤ 100) : (keyL co br s).length ≤ co.length + br.length + 1 + 202 * s.length := by
  have : (s.flatMap kt).length ≤ 202 * s.length := by
    induction s with
    | nil => simp
    | cons x r ih =>
      have h1 := ih (fun y hy => h y (by simp [hy]))
      have h2 := kt_length x (h x (by simp)).1 (h x (by simp)).2
      rw [List.flatMap_cons, List.length_append, List.length_cons]
      omega
  unfold keyL
  simp only [List.length_append, List.length_cons]
  omega
end Go.Proofs.Ytpoipkjchnopbaa.P9
