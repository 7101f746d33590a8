import Derived.Test.YtdcnkebcpaelpaaNats
import Derived.Test.YtdcnkebcpaelpaaShelf
import Derived.Lib.ItoaMem
import Derived.Lib.AppendIntMem
import Derived.Maps.AppendAt
import Derived.Deep.LoopGhost
import Derived.Lib.ItoaNum
/- Contracts of strings.Builder's writing methods over this program (the shelf's do not lie over it: the refused panic of copyCheck), and of strconv.FormatUint. -/
namespace Go.Proofs.Ytdcnkebcpaelpaa
open Go.RowKit

theorem infoU8 : (Try.prog.info? 5).map (fun i => (i.zero, i.size, i.bytes)) = some (some (.int .u8 0), 1, 1) := by kernel_rfl

end Go.Proofs.Ytdcnkebcpaelpaa
/- strconv.FormatUint at base 10, over the table of powers of ten. -/
namespace Go.Proofs.Ytdcnkebcpaelpaa
open Go.RowKit Go.Sort

/-- the table of powers of ten reads as the program's text lays it -/
def Tab (w : World) : Prop := Lib.TabIs Try.prog w "internal/strconv.uint64pow10" .u64 Lib.pow10Tab
theorem Tab.below {w w' : World} (h : Tab w) (hb : Below w.heap.size w w') : Tab w' := (Lib.tabBelow_of_tabIs h) w' hb
theorem Tab.alloc {w : World} (h : Tab w) (o : Obj) : Tab (w.alloc o) := Lib.tabIs_alloc h o

/-- 'var a [24]byte' from its head on -/
theorem holds_zero0 (w : World) (T : TypeId) (nd : Nat) (hs : nd ≤ 24) : Holds (fun (b : UInt8) => Value.int .u8 (b.toNat : Int)) (w.alloc (.cells Lib.zeros24 T)) w.heap.size 0 (Array.replicate nd (0 : UInt8)) := fun j hj => by
  have hj' : j < nd := by simpa using hj
  refine ⟨?_, World.frozen?_alloc_new _ _ _ _⟩
  rw [World.cell?_alloc_new, Lib.zeros24_at _ (by omega), getElem!_pos _ j hj]
  simp
theorem fin0 (w : World) (o : Obj) (dk : Array UInt8) (k : Nat) : Below w.heap.size w ((putRow (fun (b : UInt8) => Value.int .u8 (b.toNat : Int)) (w.alloc o) w.heap.size 0 dk).drewN k) := by
  rw [alloc_eq_grow]
  obtain ⟨os', _, e⟩ := putRow_grow_new (fun (b : UInt8) => Value.int .u8 (b.toNat : Int)) w #[o] w.heap.size 0 dk (Nat.le_refl _)
  rw [e]
  have h : Below w.heap.size w (grow (w.drewN k) os') := ⟨rfl, rfl, rfl, by simp [grow, World.drewN], fun i hi => by simp [grow, World.drewN, Array.getElem?_append, hi]⟩
  exact h

end Go.Proofs.Ytdcnkebcpaelpaa
/- Format: the groups of nine digits, and their text. -/
namespace Go.Proofs.Ytdcnkebcpaelpaa
open Go.RowKit

/-- the digits of a number in base 10^9, the lowest one first -/
def gpf : Nat → Nat → List Nat
  | 0, _ => []
  | f + 1, n => if n = 0 then [] else n % 1000000000 :: gpf f (n / 1000000000)
def gp (n : Nat) : List Nat := gpf n n
theorem gpf_fuel (f g n : Nat) (hf : n ≤ f) (hg : n ≤ g) : gpf f n = gpf g n := by
  induction f generalizing g n with
  | zero =>
    have : n = 0 := by omega
    subst this
    cases g <;> simp [gpf]
  | succ f ih =>
    cases g with
    | zero =>
      have : n = 0 := by omega
      subst this; simp [gpf]
    | succ g =>
      rw [gpf, gpf]
      by_cases h : n = 0
      · simp [h]
      · rw [if_neg h, if_neg h, ih g _ (by omega) (by omega)]
theorem gp_zero : gp 0 = [] := rfl
theorem gp_pos (n : Nat) (h : 0 < n) : gp n = n % 1000000000 :: gp (n / 1000000000) := by
  unfold gp
  obtain ⟨m, rfl⟩ : ∃ m, n = m + 1 := ⟨n - 1, by omega⟩
  rw [gpf, if_neg (by omega), gpf_fuel m ((m + 1) / 1000000000) _ (by omega) (by omega)]
theorem gp_length (k n : Nat) (h : n < pw k) : (gp n).length ≤ 2 * k := by
  induction k generalizing n with
  | zero => rw [pw_zero] at h; rw [show n = 0 by omega]; exact Nat.le_refl _
  | succ k ih =>
    by_cases h0 : n = 0
    · subst h0; simp [gp_zero]
    · by_cases h1 : n / 1000000000 = 0
      · rw [gp_pos n (by omega), h1, gp_zero]; simp; omega
      · rw [gp_pos n (by omega), gp_pos _ (by omega), List.length_cons, List.length_cons]
        rw [pw_succ] at h
        have := ih (n / 1000000000 / 1000000000) (by omega)
        omega
theorem lims_gp (n : Nat) : ∀ x ∈ gp n, x < 1000000000 := by
  induction n using Nat.strongRecOn with
  | _ n ih =>
    by_cases h : n = 0
    · subst h; intro x hx; cases hx
    · rw [gp_pos n (by omega)]
      intro x hx
      rcases List.mem_cons.1 hx with rfl | hx
      · omega
      · exact ih _ (by omega) x hx
theorem lims_of_mem {xs : List Nat} (h : ∀ x ∈ xs, x < 4294967296) : Lims xs := by
  intro i
  by_cases hi : i < xs.length
  · rw [lm_get xs i hi]; exact h _ (List.getElem_mem hi)
  · rw [lm_ge xs i (by omega)]; omega
theorem lits_append (xs ys : List Nat) : lits (xs ++ ys) = lits xs ++ lits ys := List.map_append ..

end Go.Proofs.Ytdcnkebcpaelpaa
/- Decimal digits: those of a number, group by group. -/
namespace Go.Proofs.Ytdcnkebcpaelpaa
open Go.RowKit

/-- nine digits, with zeros ahead -/
def padz (k g : Nat) : List UInt8 := List.replicate (k - (Lib.decDigits g).length) 48 ++ Lib.decDigits g
theorem dec_small {n : Nat} (h : n < 10) : Lib.decDigits n = [UInt8.ofNat (48 + n)] := by rw [Lib.decDigits, dif_pos h]
theorem dec_big {n : Nat} (h : 10 ≤ n) : Lib.decDigits n = Lib.decDigits (n / 10) ++ [UInt8.ofNat (48 + n % 10)] := by rw [Lib.decDigits, dif_neg (by omega)]
theorem dec_pos (n : Nat) : 0 < (Lib.decDigits n).length := by
  by_cases h : n < 10
  · rw [dec_small h]; simp
  · rw [dec_big (by omega)]; simp
theorem padz_succ (k g : Nat) : padz (k + 2) g = padz (k + 1) (g / 10) ++ [UInt8.ofNat (48 + g % 10)] := by
  by_cases h : g < 10
  · have e1 : g / 10 = 0 := by omega
    have e2 : g % 10 = g := by omega
    rw [padz, padz, e1, e2, dec_small h, dec_small (n := 0) (by omega)]
    simp only [List.length_cons, List.length_nil, Nat.add_sub_cancel]
    rw [show k + 2 - (0 + 1) = k + 1 by omega, List.replicate_succ']
    rfl
  · rw [padz, padz, dec_big (n := g) (by omega), List.length_append]
    have e : k + 2 - ((Lib.decDigits (g / 10)).length + [UInt8.ofNat (48 + g % 10)].length) = k + 1 - (Lib.decDigits (g / 10)).length := by simp
    rw [e, List.append_assoc]
theorem dec_split (k q g : Nat) (hq : 0 < q) (hg : g < 10 ^ (k + 1)) : Lib.decDigits (q * 10 ^ (k + 1) + g) = Lib.decDigits q ++ padz (k + 1) g := by
  induction k generalizing g with
  | zero =>
    have hg' : g < 10 := by simpa using hg
    have e : q * 10 ^ (0 + 1) + g = q * 10 + g := by simp
    rw [e, dec_big (by omega), show (q * 10 + g) / 10 = q by omega, show (q * 10 + g) % 10 = g by omega, padz, dec_small hg']
    rfl
  | succ k ih =>
    have e : q * 10 ^ (k + 1 + 1) = q * 10 ^ (k + 1) * 10 := by rw [Nat.pow_succ, ← Nat.mul_assoc]
    have hp : 0 < q * 10 ^ (k + 1) := Nat.mul_pos hq (Nat.pow_pos (by omega))
    have hg2 : g < 10 ^ (k + 1) * 10 := by rw [← Nat.pow_succ]; exact hg
    rw [e, dec_big (by omega), show (q * 10 ^ (k + 1) * 10 + g) / 10 = q * 10 ^ (k + 1) + g / 10 by omega, show (q * 10 ^ (k + 1) * 10 + g) % 10 = g % 10 by omega, ih (g / 10) (by omega), padz_succ, List.append_assoc]
theorem dec_group (q g : Nat) (hq : 0 < q) (hg : g < 1000000000) : Lib.decDigits (q * 1000000000 + g) = Lib.decDigits q ++ (List.replicate (9 - (Lib.decDigits g).length) 48 ++ Lib.decDigits g) := dec_split 8 q g hq hg
theorem dec_len_le (k g : Nat) (h : g < 10 ^ (k + 1)) : (Lib.decDigits g).length ≤ k + 1 := by
  induction k generalizing g with
  | zero => rw [dec_small (by simpa using h)]; simp
  | succ k ih =>
    by_cases hs : g < 10
    · rw [dec_small hs]; simp
    · rw [dec_big (by omega), List.length_append]
      have h2 : g < 10 ^ (k + 1) * 10 := by rw [← Nat.pow_succ]; exact h
      have := ih (g / 10) (by omega)
      simp; omega

/-- the number without its k lowest groups -/
def hi9 : Nat → Nat → Nat
  | 0, n => n
  | k + 1, n => hi9 k (n / 1000000000)
theorem hi9_zero (k : Nat) : hi9 k 0 = 0 := by
  induction k with
  | zero => rfl
  | succ k ih => rw [hi9]; exact ih
theorem hi9_succ (k n : Nat) : hi9 (k + 1) n = hi9 k n / 1000000000 := by
  induction k generalizing n with
  | zero => rfl
  | succ k ih => rw [hi9, ih, hi9]
theorem gp_get (n k : Nat) (h : k < (gp n).length) : lm (gp n) k = hi9 k n % 1000000000 ∧ 0 < hi9 k n := by
  induction k generalizing n with
  | zero =>
    by_cases h0 : n = 0
    · subst h0; simp [gp_zero] at h
    · rw [gp_pos n (by omega)]; exact ⟨rfl, by show 0 < n; omega⟩
  | succ k ih =>
    by_cases h0 : n = 0
    · subst h0; simp [gp_zero] at h
    · rw [gp_pos n (by omega)] at h ⊢
      rw [lm_cons_succ, hi9]
      exact ih _ (by simpa using h)
theorem gp_end (n : Nat) : hi9 (gp n).length n = 0 := by
  induction n using Nat.strongRecOn with
  | _ n ih =>
    by_cases h : n = 0
    · subst h; exact hi9_zero _
    · rw [gp_pos n (by omega), List.length_cons, hi9]; exact ih _ (by omega)

/-- the text behind i rounds: the i highest groups -/
def txt (n i : Nat) : List UInt8 := if i = 0 then [] else Lib.decDigits (hi9 ((gp n).length - i) n)
theorem txt_zero (n : Nat) : txt n 0 = [] := rfl
theorem txt_one (n i : Nat) (hi : i = 0) (h : 0 < (gp n).length) : txt n (i + 1) = Lib.decDigits (lm (gp n) ((gp n).length - 1 - i)) := by
  subst hi
  rw [txt, if_neg (by omega), (gp_get n _ (by omega)).1]
  have h2 := gp_end n
  rw [show (gp n).length = (gp n).length - 1 + 1 by omega, hi9_succ] at h2
  congr 1
  show hi9 ((gp n).length - (0 + 1)) n = hi9 ((gp n).length - 1 - 0) n % 1000000000
  rw [show (gp n).length - (0 + 1) = (gp n).length - 1 by omega, show (gp n).length - 1 - 0 = (gp n).length - 1 by omega]
  omega
theorem txt_succ (n i : Nat) (hi : 0 < i) (h : i < (gp n).length) : txt n (i + 1) = txt n i ++ (List.replicate (9 - (Lib.decDigits (lm (gp n) ((gp n).length - 1 - i))).length) 48 ++ Lib.decDigits (lm (gp n) ((gp n).length - 1 - i))) := by
  have g1 := gp_get n ((gp n).length - 1 - i) (by omega)
  have g2 := gp_get n ((gp n).length - i) (by omega)
  have e := hi9_succ ((gp n).length - 1 - i) n
  rw [show (gp n).length - 1 - i + 1 = (gp n).length - i by omega] at e
  rw [txt, if_neg (by omega), txt, if_neg (by omega), show (gp n).length - (i + 1) = (gp n).length - 1 - i by omega, g1.1, ← dec_group _ _ g2.2 (by omega)]
  congr 1
  omega
theorem txt_end (n : Nat) (h : 0 < (gp n).length) : txt n (gp n).length = Lib.decDigits n := by
  rw [txt, if_neg (by omega), Nat.sub_self]; rfl
end Go.Proofs.Ytdcnkebcpaelpaa
/- Format writes the decimal digits of the number. -/
namespace Go.Proofs.Ytdcnkebcpaelpaa
open Go.RowKit

theorem BuilderF_below {T e : TypeId} {B b : Nat} {bs : List Value} {w w' : World} (h : Lib.IsBuilderF T e B b bs w) (hb : Below w.heap.size w w') : Lib.IsBuilderF T e B b bs w' := by
  have aux : ∀ p, Lib.BuilderAtF T e B b p bs w → Lib.BuilderAtF T e B b p bs w' := by
    rintro p ⟨h1, v, h2, h3, h4⟩
    have hlt : b < w.heap.size := (Array.getElem?_eq_some_iff.1 h2).1
    exact ⟨h1, v, (hb.block b hlt).trans h2, h3.kept (row := none) (grownBy_below hb (Nat.le_refl _) none) (by cases hv : v.ownBlock <;> simp), h4⟩
  rcases h with h | h
  · exact .inl (aux _ h)
  · exact .inr (aux _ h)
theorem repeat_zero (c : Nat) : Lib.repeatL [48] c = List.replicate c 48 := by
  induction c with
  | zero => rfl
  | succ c ih => rw [Nat.add_comm, Lib.repeatL_add, Lib.repeatL_one, ih, Nat.add_comm, List.replicate_succ]; rfl
theorem ret_str {a b : List UInt8} (h : a = b) : Ending.returned (.string ⟨a.toArray⟩) = .returned (.string ⟨b.toArray⟩) := by rw [h]

end Go.Proofs.Ytdcnkebcpaelpaa
