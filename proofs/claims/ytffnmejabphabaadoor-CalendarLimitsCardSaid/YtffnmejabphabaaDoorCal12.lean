import Derived.Test.YtffnmejabphabaaDoorCal11
/- Shift from days far from the calendar's ends. -/
namespace Go.Proofs.YtffnmejabphabaaDoor
open Go.RowKit Go.Sort

/-- Shift forward from a day far from the end -/
theorem fwd_ends (hs : List Int) (d : Int) (c m : Nat) (hl : hs.length ≤ 14) (h0 : 0 ≤ d) (hc : 1 ≤ c) (hm : c + 14 ≤ 5 * m) (hd : d + ((7 * m : Nat) : Int) ≤ 182621) : ∃ n : Nat, n < 7 * m ∧ W (bus hs) 1 d c (d + (n : Int), 0) := by
  have := cnt_ge hs d m h0 hd
  exact W.ends (7 * m) d c hc (by omega) h0 hd
theorem sh_fwd {hs : List Int} {d a e : Int} {c : Nat} (h0 : 0 ≤ d) (h1 : d ≤ 182620) (hc : 1 ≤ c) (hc1 : c ≤ 1000) (hl : hs.length ≤ 14) (h : W (bus hs) 1 (d + 1) c (a, e)) : Sh hs d (c : Int) a e :=
  .inr ⟨h0, h1, .inr ⟨by omega, by omega, .inr ⟨by omega, .inr (.inr ⟨c, rfl, hc, hc1, h⟩)⟩⟩⟩
theorem sh_zero {hs : List Int} {d a e : Int} (h0 : 0 ≤ d) (h1 : d ≤ 182620) (hl : hs.length ≤ 14) (h : W (bus hs) 1 d 1 (a, e)) : Sh hs d 0 a e :=
  .inr ⟨h0, h1, .inr ⟨by omega, by omega, .inr ⟨by omega, .inr (.inl ⟨rfl, h⟩)⟩⟩⟩
theorem sh_back {hs : List Int} {d a e : Int} {c : Nat} (h0 : 0 ≤ d) (h1 : d ≤ 182620) (hc : 1 ≤ c) (hc1 : c ≤ 1000) (hl : hs.length ≤ 14) (h : W (bus hs) (-1) (d + -1) c (a, e)) : Sh hs d (-(c : Int)) a e :=
  .inr ⟨h0, h1, .inr ⟨by omega, by omega, .inr ⟨by omega, .inl ⟨c, rfl, hc, hc1, h⟩⟩⟩⟩

end Go.Proofs.YtffnmejabphabaaDoor
