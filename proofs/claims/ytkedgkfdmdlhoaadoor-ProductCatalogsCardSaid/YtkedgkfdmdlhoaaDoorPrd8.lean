import Derived.Test.YtkedgkfdmdlhoaaDoorSsaT
import Derived.Test.YtkedgkfdmdlhoaaDoorPrd6
/- Layer 9: an article of the tape's catalog (Tape.Item). -/
namespace Go.Proofs.YtkedgkfdmdlhoaaDoor.P9
open Go.RowKit Go.Sort C6

def cd1 : ByteArray := ⟨#[48, 49, 46, 49]⟩
def cd2 : ByteArray := ⟨#[48, 49, 46, 50]⟩
def acm : ByteArray := ⟨#[97, 99, 109, 101]⟩
/-- the k-th article but for its attributes -/
def ITM (k : Nat) (p : Pd) : Prop := p.id = idB k ∧ (p.co = cd1 ∨ p.co = cd2) ∧ p.br = acm ∧ p.d = 1 ∧ p.c = 1 ∧ ∃ q : Nat, p.a = (q : Int) ∧ 400000 ≤ q ∧ q ≤ 550000
def ItR1 (B N k : Nat) : List (Value → World → Prop) := [kVal (.int .i64 (k : Int)), kVal (.string (idB k)), kRow B 2 9 #[.string cd1, .string cd2], kVal (.pointer (some ⟨B, 0, none⟩)), kSat (fun v => ∃ r : Nat, v = .int .i64 (r : Int) ∧ r < 2), kAt B 2 9 #[.string cd1, .string cd2], kSat (fun v => ∃ c, v = .string c ∧ (c = cd1 ∨ c = cd2)), kVal (.pointer (some ⟨B, 0, none⟩)), kSat (fun v => ∃ r : Nat, v = .int .i64 (r : Int) ∧ r < 4), kSat (fun v => ∃ m : Nat, v = .int .i64 (m : Int) ∧ m ≤ 150000), kSat (fun v => ∃ q : Nat, v = .int .i64 (q : Int) ∧ (400000 ≤ q ∧ q ≤ 550000)), kSat (fun v => ∃ q : Nat, v = .agg #[.int .i64 1, .int .i64 1, .int .i64 (q : Int)] ∧ (400000 ≤ q ∧ q ≤ 550000)), kSat (fun v => ∃ (c : ByteArray) (q : Nat), v = .agg #[.string (idB k), .string c, .string acm, .int .i64 1, .int .i64 1, .int .i64 (q : Int), .slice none 0 0] ∧ (c = cd1 ∨ c = cd2) ∧ (400000 ≤ q ∧ q ≤ 550000)), kBox B (N + 1), kAny]
def ItX1 (B N k : Nat) (ao : Option Addr) (n cap i0 : Nat) (D : Nat → Bool) (f : Nat → Value) (w : World) : Prop := Tap w B ao n cap (i0 + (bif D 8 then 2 else bif D 4 then 1 else 0)) ∧ (D 14 = true → ∃ g p, f 5 = .pointer (some ⟨g, 0, none⟩) ∧ N + 1 ≤ g ∧ g ≠ B ∧ ITM k p ∧ PB w g p (.slice none 0 0))

def pwr : ByteArray := ⟨#[112, 111, 119, 101, 114]⟩
def clr : ByteArray := ⟨#[99, 111, 108, 111, 117, 114]⟩
def va1 : ByteArray := ⟨#[49]⟩
def va2 : ByteArray := ⟨#[50]⟩
def va3 : ByteArray := ⟨#[50, 46, 53]⟩
def va4 : ByteArray := ⟨#[52]⟩
def vb1 : ByteArray := ⟨#[114, 101, 100]⟩
def vb2 : ByteArray := ⟨#[98, 108, 117, 101]⟩
def vb3 : ByteArray := ⟨#[103, 114, 101, 101, 110]⟩
def VPw (c : ByteArray) : Prop := c = va1 ∨ c = va2 ∨ c = va3 ∨ c = va4
def VCo (c : ByteArray) : Prop := c = vb1 ∨ c = vb2 ∨ c = vb3
def kAtr (B M : Nat) : Value → World → Prop := fun v w => ∃ g ca cb, v = .slice (some ⟨g, 0, none⟩) 2 2 ∧ g ≠ B ∧ M ≤ g ∧ VPw ca ∧ VCo cb ∧ w.heap[g]? = some (.cells #[.string pwr, .string ca, .string clr, .string cb] 52 (0, 0))
theorem Stab.atr {B N M : Nat} : Stab B N (kAtr B M) := by
  rintro v w w' ⟨g, ca, cb, h1, h2, h3, h4, h5, h6⟩ hE
  exact ⟨g, ca, cb, h1, h2, h3, h4, h5, hE.row (by decide) h2 h6⟩
def ItR2 (B N g5 : Nat) : List (Value → World → Prop) := [kRow B 4 9 #[.string va1, .string va2, .string va3, .string va4], kVal (.pointer (some ⟨B, 0, none⟩)), kSat (fun v => ∃ r : Nat, v = .int .i64 (r : Int) ∧ r < 4), kAt B 4 9 #[.string va1, .string va2, .string va3, .string va4], kSat (fun v => ∃ c, v = .string c ∧ VPw c), kSat (fun v => ∃ c, v = .agg #[.string pwr, .string c] ∧ VPw c), kRow B 3 9 #[.string vb1, .string vb2, .string vb3], kVal (.pointer (some ⟨B, 0, none⟩)), kSat (fun v => ∃ r : Nat, v = .int .i64 (r : Int) ∧ r < 3), kAt B 3 9 #[.string vb1, .string vb2, .string vb3], kSat (fun v => ∃ c, v = .string c ∧ VCo c), kSat (fun v => ∃ c, v = .agg #[.string clr, .string c] ∧ VCo c), kAtr B (N + 1), kVal (.pointer (some ⟨g5, 6, none⟩)), kAny]
def ItX2 (B N g5 : Nat) (p : Pd) (ao : Option Addr) (n cap i0 : Nat) (D : Nat → Bool) (_ : Nat → Value) (w : World) : Prop := Tap w B ao n cap (i0 + 2 + (bif D 8 then 2 else bif D 2 then 1 else 0)) ∧ (D 14 = false → PB w g5 p (.slice none 0 0)) ∧ (D 14 = true → ∃ ga ca cb, ga ≠ B ∧ N + 1 ≤ ga ∧ VPw ca ∧ VCo cb ∧ w.heap[ga]? = some (.cells #[.string pwr, .string ca, .string clr, .string cb] 52 (0, 0)) ∧ PB w g5 p (.slice (some ⟨ga, 0, none⟩) 2 2))

/-- what Item returns: the article, its two attributes in one order or the other, in memory of its own -/
def ItemPost (k B : Nat) (ao : Option Addr) (n cap i0 : Nat) (w : World) (e : Ending) (w' : World) : Prop := ∃ p ga l ca cb, e = .returned (.agg #[.string p.id, .string p.co, .string p.br, .int .i64 p.d, .int .i64 p.c, .int .i64 p.a, .slice (some ⟨ga, 0, none⟩) 2 2]) ∧ ITM k p ∧ VPw ca ∧ VCo cb ∧ (l = [(pwr, ca), (clr, cb)] ∨ l = [(clr, cb), (pwr, ca)]) ∧ w'.ownsRow w.heap.size 52 2 (.slice (some ⟨ga, 0, none⟩) 2 2) 2 (atv l) ∧ w.grownBy w' (some B) ∧ Tap w' B ao n cap (i0 + 5)
theorem gb_far1 {w w2 : World} {row : Option Nat} {g : Nat} (h : w.grownBy w2 row) (hg : w.heap.size ≤ g) (j : Nat) (u : Value) : w.grownBy (w2.setCell ⟨g, j, none⟩ u) row :=
  ⟨h.os, h.tape, h.output, Nat.le_trans h.size (by simp), fun b hb hne => (Below.heap_setCell _ _ _ _ (by show b ≠ g; omega)).trans (h.block b hb hne)⟩
theorem gb_far7 {w w2 : World} {row : Option Nat} {g : Nat} (h : w.grownBy w2 row) (hg : w.heap.size ≤ g) (p : Pd) (v : Value) : w.grownBy (set7 w2 g p v) row := gb_far1 (gb_far1 (gb_far1 (gb_far1 (gb_far1 (gb_far1 (gb_far1 h hg _ _) hg _ _) hg _ _) hg _ _) hg _ _) hg _ _) hg _ _
theorem gb_drew {w w2 : World} {row : Option Nat} (h : w.grownBy w2 row) : w.grownBy w2.drew row := ⟨h.os, h.tape, h.output, h.size, h.block⟩
theorem tap_drew {w : World} {B : Nat} {ao : Option Addr} {n cap i : Nat} (h : Tap w B ao n cap i) : Tap w.drew B ao n cap i := h
theorem row_of2 {w : World} {g base : Nat} {a b c d : ByteArray} (h : w.heap[g]? = some (.cells #[.string a, .string b, .string c, .string d] 52 (0, 0))) (hb : base ≤ g) : w.ownsRow base 52 2 (.slice (some ⟨g, 0, none⟩) 2 2) 2 (atv [(a, b), (c, d)]) :=
  ⟨rfl, .inr ⟨g, 2, _, rfl, hb, h, by omega, by decide, rfl, rfl⟩⟩

set_option maxHeartbeats 16000000 in
set_option maxRecDepth 100000 in
theorem Item_v (k : Nat) (hk : k < 1000000) (z : Int) (hz : z = (k : Int)) (B : Nat) (ao : Option Addr) (cap : Nat) (ts : List Int) (i0 : Nat) (w : World) (hb : Tap w B ao ts.length cap i0) (ht : RdZ w ao cap ts) (htB : 0 < (intz ts).length → ∀ b o, ao = some ⟨b, o, none⟩ → b < B) (hi : i0 ≤ 2900) :
    Calls Tryd.prog 20 #[.pointer (some ⟨B, 0, none⟩), .int .i64 z] w (ItemPost k B ao ts.length cap i0 w) := by
  subst hz
  obtain ⟨W1, hW1⟩ : ∃ W, W = w.alloc (.cells #[.string ⟨#[]⟩, .string ⟨#[]⟩, .string ⟨#[]⟩, .int .i64 0, .int .i64 0, .int .i64 0, .slice none 0 0] 26) := ⟨_, rfl⟩
  have hBl := hb.lt
  obtain ⟨N, hN⟩ : ∃ N, N = w.heap.size := ⟨_, rfl⟩
  have hBN : B ≤ N := by omega
  have T1 : Tap W1 B ao ts.length cap i0 := by rw [hW1]; exact hb.alloc _
  have Q1 : PB W1 N Pd.zero (.slice none 0 0) := by rw [hW1, hN]; exact PB.zero w
  have B1 : Below w.heap.size w W1 := by rw [hW1]; exact below_new _ _
  have R1 : RdZ W1 ao cap ts := ht.below B1
  have s1 : W1.heap.size = N + 1 := by rw [hW1, hN]; exact World.size_alloc _ _
  have HT1 := Lib.hid T1
  have HR1 := Lib.hid R1
  have HTB := Lib.hid htB
  have HQ1 := Lib.hid Q1
  have HB1 := Lib.hid B1
  have HN := Lib.hid hN
  have HS1 := Lib.hid s1
  clear hb ht htB T1 R1 Q1 B1 s1
  go_enter Tryd.func20, Tryd.ntmps20
  go_wp2_with fail
  rw [← hW1]
  clear hW1
  have hsz : ∀ {w1 : World}, Ex B N W1 w1 → N + 1 ≤ w1.heap.size := fun h => by have := h.size; have := HS1.out; omega
  refine wp_region_any (by kernel_rfl) ?_
  refine region_ssa [6, 7, 8, 9, 10, 11, 12, 13, 14, 15, 16, 17, 18, 5] (Ex B N W1) (Ex B N) (RLs (ItR1 B N k)) (ItX1 B N k ao ts.length cap i0) (fun f => rfl) (by kernel_rfl) (by kernel_rfl) ?_ ?_ ?_ ?_ (AllF.below (n := 15) ?_) ?_
  · exact (Ex.refl _ _ _).drew 1
  · intro f; exact ⟨HT1.out, fun h => by cases h⟩
  · intro i v w1 w2 _ h hE; exact RLs.stab (StabL.all (l := ItR1 B N k) ⟨Stab.val _, Stab.val _, Stab.row (by decide) _, Stab.val _, Stab.sat _, Stab.at (by decide) _, Stab.sat _, Stab.val _, Stab.sat _, Stab.sat _, Stab.sat _, Stab.sat _, Stab.sat _, Stab.box, Stab.any, trivial⟩) i v w1 w2 h hE
  · intro w1 w2 hB hE; exact hB.trans hE

  · refine AllF.step (m := 14) (j := 1) rfl ?_ ?_
    · intro D f w1 hD hB hR hp hcl hX
      have HX := Lib.hid hX
      have HC := Lib.hid hcl
      have HB := Lib.hid hB
      have HD := Lib.hid hD
      clear hX hcl hB hD hR hp
      refine wpOp_step rfl (fun K hK => ?_)
      simp only [putAll, Act.put, List.setIfInBounds_toArray, List.set_cons_succ, List.set_cons_zero]
      go_simp
      exact hK _ _ ⟨.int .i64 (k : Int), (by show _ = Act.put _ (some 6) _; simp only [putAll, Act.put, List.setIfInBounds_toArray, List.set_cons_succ, List.set_cons_zero, *]; all_goals rfl), rfl, Ex.refl _ _ _, ⟨HX.out.1, fun h => absurd h (noOf (D := D) (HC.out 14) (by kernel_rfl) HD.out)⟩⟩
    refine AllF.step (m := 13) (j := 2) rfl ?_ ?_
    · intro D f w1 hD hB hR hp hcl hX
      have e0 : f 6 = .int .i64 (k : Int) := (hpAt hp 0 (by kernel_rfl)).2
      have HX := Lib.hid hX
      have HC := Lib.hid hcl
      have HB := Lib.hid hB
      have HD := Lib.hid hD
      clear hX hcl hB hD hR hp
      refine wpOp_step rfl (fun K hK => ?_)
      simp only [putAll, Act.put, List.setIfInBounds_toArray, List.set_cons_succ, List.set_cons_zero]
      go_simp
      refine (ID_v k hk (k : Int) rfl _).mono ?_; rintro e w2 ⟨rfl, b2⟩
      go_simp
      exact hK _ _ ⟨.string (idB k), (by show _ = Act.put _ (some 7) _; simp only [putAll, Act.put, List.setIfInBounds_toArray, List.set_cons_succ, List.set_cons_zero, *]; all_goals rfl), rfl, Ex.of_below b2, ⟨HX.out.1.keep b2, fun h => absurd h (noOf (D := D) (HC.out 14) (by kernel_rfl) HD.out)⟩⟩
    refine AllF.step (m := 12) (j := 3) rfl ?_ ?_
    · intro D f w1 hD hB hR hp hcl hX
      have hlt := hX.1.lt
      have HX := Lib.hid hX
      have HC := Lib.hid hcl
      have HB := Lib.hid hB
      have HD := Lib.hid hD
      clear hX hcl hB hD hR hp
      refine wpOp_step rfl (fun K hK => ?_)
      simp only [putAll, Act.put, List.setIfInBounds_toArray, List.set_cons_succ, List.set_cons_zero]
      go_simp
      exact hK _ _ ⟨.slice (some ⟨w1.heap.size, 0, none⟩) 2 2, (by show _ = Act.put _ (some 8) _; simp only [putAll, Act.put, List.setIfInBounds_toArray, List.set_cons_succ, List.set_cons_zero, *]; all_goals rfl), ⟨w1.heap.size, rfl, by omega, heap_alloc_new _ _⟩, Ex.alloc _ _, ⟨HX.out.1.alloc _, fun h => absurd h (noOf (D := D) (HC.out 14) (by kernel_rfl) HD.out)⟩⟩
    refine AllF.step (m := 11) (j := 4) rfl ?_ ?_
    · intro D f w1 hD hB hR hp hcl hX
      have HX := Lib.hid hX
      have HC := Lib.hid hcl
      have HB := Lib.hid hB
      have HD := Lib.hid hD
      clear hX hcl hB hD hR hp
      refine wpOp_step rfl (fun K hK => ?_)
      simp only [putAll, Act.put, List.setIfInBounds_toArray, List.set_cons_succ, List.set_cons_zero]
      go_simp
      exact hK _ _ ⟨.pointer (some ⟨B, 0, none⟩), (by show _ = Act.put _ (some 9) _; simp only [putAll, Act.put, List.setIfInBounds_toArray, List.set_cons_succ, List.set_cons_zero, *]; all_goals rfl), rfl, Ex.refl _ _ _, ⟨HX.out.1, fun h => absurd h (noOf (D := D) (HC.out 14) (by kernel_rfl) HD.out)⟩⟩
    refine AllF.step (m := 10) (j := 5) rfl ?_ ?_
    · intro D f w1 hD hB hR hp hcl hX
      have e3 : f 9 = .pointer (some ⟨B, 0, none⟩) := (hpAt hp 3 (by kernel_rfl)).2
      have h8 : D 8 = false := noF (hcl 8) (by kernel_rfl) hD
      have T : Tap w1 B ao ts.length cap i0 := by have h := hX.1; rw [h8, hD] at h; exact h
      have RD := hB.rd HR1.out HTB.out hBN
      have HX := Lib.hid hX
      have HC := Lib.hid hcl
      have HB := Lib.hid hB
      have HD := Lib.hid hD
      clear hX hcl hB hD hR hp
      refine wpOp_step rfl (fun K hK => ?_)
      simp only [putAll, Act.put, List.setIfInBounds_toArray, List.set_cons_succ, List.set_cons_zero]
      go_simp
      refine (Next_v B ao cap ts i0 2 _ T RD (by omega) (by omega) (by omega) 2 rfl).mono ?_; rintro e w2 ⟨r, rfl, hr, g2, z2, t2⟩
      go_simp
      have hX2 : Tap w2 B ao ts.length cap (i0 + (bif upd D 4 8 then 2 else bif upd D 4 4 then 1 else 0)) := by
            have e8 : upd D 4 8 = false := h8
            have e4 : upd D 4 4 = true := rfl
            rw [e8, e4]
            exact t2
      exact hK _ _ ⟨.int .i64 (r : Int), (by show _ = Act.put _ (some 10) _; simp only [putAll, Act.put, List.setIfInBounds_toArray, List.set_cons_succ, List.set_cons_zero, *]; all_goals rfl), ⟨r, rfl, hr⟩, Ex.of_gb g2, ⟨hX2, fun h => absurd h (noOf (D := D) (HC.out 14) (by kernel_rfl) HD.out)⟩⟩
    refine AllF.step (m := 9) (j := 6) rfl ?_ ?_
    · intro D f w1 hD hB hR hp hcl hX
      obtain ⟨g, e2, hgB, hrow⟩ := (hpAt hp 2 (by kernel_rfl)).2
      replace e2 : f 8 = _ := e2
      obtain ⟨r, e4, hr⟩ := (hpAt hp 4 (by kernel_rfl)).2
      replace e4 : f 10 = _ := e4
      have hrI : (r : Int) < 2 := by omega
      have HX := Lib.hid hX
      have HC := Lib.hid hcl
      have HB := Lib.hid hB
      have HD := Lib.hid hD
      clear hX hcl hB hD hR hp
      refine wpOp_step rfl (fun K hK => ?_)
      simp only [putAll, Act.put, List.setIfInBounds_toArray, List.set_cons_succ, List.set_cons_zero]
      go_simp
      exact hK _ _ ⟨.pointer (some ⟨g, r, none⟩), (by show _ = Act.put _ (some 11) _; simp only [putAll, Act.put, List.setIfInBounds_toArray, List.set_cons_succ, List.set_cons_zero, *]; all_goals rfl), ⟨g, r, rfl, hr, hgB, hrow⟩, Ex.refl _ _ _, ⟨HX.out.1, fun h => absurd h (noOf (D := D) (HC.out 14) (by kernel_rfl) HD.out)⟩⟩
    refine AllF.step (m := 8) (j := 7) rfl ?_ ?_
    · intro D f w1 hD hB hR hp hcl hX
      obtain ⟨g, r, e5, hr, hgB, hrow⟩ := (hpAt hp 5 (by kernel_rfl)).2
      replace e5 : f 11 = _ := e5
      obtain ⟨cx, hcx, hcell⟩ : ∃ cx, (cx = cd1 ∨ cx = cd2) ∧ w1.cell? ⟨g, r, none⟩ = some (.string cx) := by
            have : r = 0 ∨ r = 1 := by omega
            rcases this with rfl | rfl
            · exact ⟨cd1, .inl rfl, cell_in hrow rfl⟩
            · exact ⟨cd2, .inr rfl, cell_in hrow rfl⟩
      have HX := Lib.hid hX
      have HC := Lib.hid hcl
      have HB := Lib.hid hB
      have HD := Lib.hid hD
      clear hX hcl hB hD hR hp
      refine wpOp_step rfl (fun K hK => ?_)
      simp only [putAll, Act.put, List.setIfInBounds_toArray, List.set_cons_succ, List.set_cons_zero]
      go_simp
      exact hK _ _ ⟨.string cx, (by show _ = Act.put _ (some 12) _; simp only [putAll, Act.put, List.setIfInBounds_toArray, List.set_cons_succ, List.set_cons_zero, *]; all_goals rfl), ⟨cx, rfl, hcx⟩, Ex.refl _ _ _, ⟨HX.out.1, fun h => absurd h (noOf (D := D) (HC.out 14) (by kernel_rfl) HD.out)⟩⟩
    refine AllF.step (m := 7) (j := 8) rfl ?_ ?_
    · intro D f w1 hD hB hR hp hcl hX
      have HX := Lib.hid hX
      have HC := Lib.hid hcl
      have HB := Lib.hid hB
      have HD := Lib.hid hD
      clear hX hcl hB hD hR hp
      refine wpOp_step rfl (fun K hK => ?_)
      simp only [putAll, Act.put, List.setIfInBounds_toArray, List.set_cons_succ, List.set_cons_zero]
      go_simp
      exact hK _ _ ⟨.pointer (some ⟨B, 0, none⟩), (by show _ = Act.put _ (some 13) _; simp only [putAll, Act.put, List.setIfInBounds_toArray, List.set_cons_succ, List.set_cons_zero, *]; all_goals rfl), rfl, Ex.refl _ _ _, ⟨HX.out.1, fun h => absurd h (noOf (D := D) (HC.out 14) (by kernel_rfl) HD.out)⟩⟩
    refine AllF.step (m := 6) (j := 9) rfl ?_ ?_
    · intro D f w1 hD hB hR hp hcl hX
      have e7 : f 13 = .pointer (some ⟨B, 0, none⟩) := (hpAt hp 7 (by kernel_rfl)).2
      have h4 : D 4 = true := (hpAt hp 4 (by kernel_rfl)).1
      have T : Tap w1 B ao ts.length cap (i0 + 1) := by have h := hX.1; rw [hD, h4] at h; exact h
      have RD := hB.rd HR1.out HTB.out hBN
      have HX := Lib.hid hX
      have HC := Lib.hid hcl
      have HB := Lib.hid hB
      have HD := Lib.hid hD
      clear hX hcl hB hD hR hp
      refine wpOp_step rfl (fun K hK => ?_)
      simp only [putAll, Act.put, List.setIfInBounds_toArray, List.set_cons_succ, List.set_cons_zero]
      go_simp
      refine (Next_v B ao cap ts (i0 + 1) 4 _ T RD (by omega) (by omega) (by omega) 4 rfl).mono ?_; rintro e w2 ⟨r, rfl, hr, g2, z2, t2⟩
      go_simp
      have hX2 : Tap w2 B ao ts.length cap (i0 + (bif upd D 8 8 then 2 else bif upd D 8 4 then 1 else 0)) := by
            have e8 : upd D 8 8 = true := rfl
            rw [e8]
            exact t2
      exact hK _ _ ⟨.int .i64 (r : Int), (by show _ = Act.put _ (some 14) _; simp only [putAll, Act.put, List.setIfInBounds_toArray, List.set_cons_succ, List.set_cons_zero, *]; all_goals rfl), ⟨r, rfl, hr⟩, Ex.of_gb g2, ⟨hX2, fun h => absurd h (noOf (D := D) (HC.out 14) (by kernel_rfl) HD.out)⟩⟩
    refine AllF.step (m := 5) (j := 10) rfl ?_ ?_
    · intro D f w1 hD hB hR hp hcl hX
      obtain ⟨r, e8, hr⟩ := (hpAt hp 8 (by kernel_rfl)).2
      replace e8 : f 14 = _ := e8
      obtain ⟨m, hm⟩ : ∃ m : Nat, (50000 : Int) * (r : Int) = (m : Int) := ⟨50000 * r, by omega⟩
      have hmb : m ≤ 150000 := by omega
      have hmw : IntKind.i64.wrap (m : Int) = (m : Int) := IntWalk.i64_in _ (by omega)
      have HX := Lib.hid hX
      have HC := Lib.hid hcl
      have HB := Lib.hid hB
      have HD := Lib.hid hD
      clear hX hcl hB hD hR hp
      refine wpOp_step rfl (fun K hK => ?_)
      simp only [putAll, Act.put, List.setIfInBounds_toArray, List.set_cons_succ, List.set_cons_zero]
      go_simp
      exact hK _ _ ⟨.int .i64 (m : Int), (by show _ = Act.put _ (some 15) _; simp only [putAll, Act.put, List.setIfInBounds_toArray, List.set_cons_succ, List.set_cons_zero, *]; all_goals rfl), ⟨m, rfl, hmb⟩, Ex.refl _ _ _, ⟨HX.out.1, fun h => absurd h (noOf (D := D) (HC.out 14) (by kernel_rfl) HD.out)⟩⟩
    refine AllF.step (m := 4) (j := 11) rfl ?_ ?_
    · intro D f w1 hD hB hR hp hcl hX
      obtain ⟨m, e9, hm⟩ := (hpAt hp 9 (by kernel_rfl)).2
      replace e9 : f 15 = _ := e9
      obtain ⟨q, hq⟩ : ∃ q : Nat, (400000 : Int) + (m : Int) = (q : Int) := ⟨400000 + m, by omega⟩
      have hqb : 400000 ≤ q ∧ q ≤ 550000 := by omega
      have hqw : IntKind.i64.wrap (q : Int) = (q : Int) := IntWalk.i64_in _ (by omega)
      have HX := Lib.hid hX
      have HC := Lib.hid hcl
      have HB := Lib.hid hB
      have HD := Lib.hid hD
      clear hX hcl hB hD hR hp
      refine wpOp_step rfl (fun K hK => ?_)
      simp only [putAll, Act.put, List.setIfInBounds_toArray, List.set_cons_succ, List.set_cons_zero]
      go_simp
      exact hK _ _ ⟨.int .i64 (q : Int), (by show _ = Act.put _ (some 16) _; simp only [putAll, Act.put, List.setIfInBounds_toArray, List.set_cons_succ, List.set_cons_zero, *]; all_goals rfl), ⟨q, rfl, hqb⟩, Ex.refl _ _ _, ⟨HX.out.1, fun h => absurd h (noOf (D := D) (HC.out 14) (by kernel_rfl) HD.out)⟩⟩
    refine AllF.step (m := 3) (j := 12) rfl ?_ ?_
    · intro D f w1 hD hB hR hp hcl hX
      obtain ⟨q, e10, hqb⟩ := (hpAt hp 10 (by kernel_rfl)).2
      replace e10 : f 16 = _ := e10
      have HX := Lib.hid hX
      have HC := Lib.hid hcl
      have HB := Lib.hid hB
      have HD := Lib.hid hD
      clear hX hcl hB hD hR hp
      refine wpOp_step rfl (fun K hK => ?_)
      simp only [putAll, Act.put, List.setIfInBounds_toArray, List.set_cons_succ, List.set_cons_zero]
      go_simp
      exact hK _ _ ⟨.agg #[.int .i64 1, .int .i64 1, .int .i64 (q : Int)], (by show _ = Act.put _ (some 17) _; simp only [putAll, Act.put, List.setIfInBounds_toArray, List.set_cons_succ, List.set_cons_zero, *]; all_goals rfl), ⟨q, rfl, hqb⟩, Ex.refl _ _ _, ⟨HX.out.1, fun h => absurd h (noOf (D := D) (HC.out 14) (by kernel_rfl) HD.out)⟩⟩
    refine AllF.step (m := 2) (j := 13) rfl ?_ ?_
    · intro D f w1 hD hB hR hp hcl hX
      have e1 : f 7 = .string (idB k) := (hpAt hp 1 (by kernel_rfl)).2
      obtain ⟨cx, e6, hcx⟩ := (hpAt hp 6 (by kernel_rfl)).2
      replace e6 : f 12 = _ := e6
      obtain ⟨q, e11, hqb⟩ := (hpAt hp 11 (by kernel_rfl)).2
      replace e11 : f 17 = _ := e11
      have HX := Lib.hid hX
      have HC := Lib.hid hcl
      have HB := Lib.hid hB
      have HD := Lib.hid hD
      clear hX hcl hB hD hR hp
      refine wpOp_step rfl (fun K hK => ?_)
      simp only [putAll, Act.put, List.setIfInBounds_toArray, List.set_cons_succ, List.set_cons_zero]
      go_simp
      exact hK _ _ ⟨.agg #[.string (idB k), .string cx, .string acm, .int .i64 1, .int .i64 1, .int .i64 (q : Int), .slice none 0 0], (by show _ = Act.put _ (some 18) _; simp only [putAll, Act.put, List.setIfInBounds_toArray, List.set_cons_succ, List.set_cons_zero, *]; all_goals rfl), ⟨cx, q, rfl, hcx, hqb⟩, Ex.refl _ _ _, ⟨HX.out.1, fun h => absurd h (noOf (D := D) (HC.out 14) (by kernel_rfl) HD.out)⟩⟩
    refine AllF.step (m := 1) (j := 14) rfl ?_ ?_
    · intro D f w1 hD hB hR hp hcl hX
      have hlt := hX.1.lt
      have HX := Lib.hid hX
      have HC := Lib.hid hcl
      have HB := Lib.hid hB
      have HD := Lib.hid hD
      clear hX hcl hB hD hR hp
      refine wpOp_step rfl (fun K hK => ?_)
      simp only [putAll, Act.put, List.setIfInBounds_toArray, List.set_cons_succ, List.set_cons_zero]
      go_simp
      exact hK _ _ ⟨.pointer (some ⟨w1.heap.size, 0, none⟩), (by show _ = Act.put _ (some 5) _; simp only [putAll, Act.put, List.setIfInBounds_toArray, List.set_cons_succ, List.set_cons_zero, *]; all_goals rfl), ⟨w1.heap.size, rfl, hsz HB.out, by omega, _, _, PB.zero w1⟩, Ex.alloc _ _, ⟨HX.out.1.alloc _, fun h => absurd h (noOf (D := D) (HC.out 14) (by kernel_rfl) HD.out)⟩⟩
    refine AllF.step (m := 0) (j := 15) rfl ?_ ?_
    · intro D f w1 hD hB hR hp hcl hX
      obtain ⟨cx, q, e12, hcx, hqb⟩ := (hpAt hp 12 (by kernel_rfl)).2
      replace e12 : f 18 = _ := e12
      obtain ⟨g, e13, hgN, hgB, p0, v0, hpb⟩ := (hpAt hp 13 (by kernel_rfl)).2
      replace e13 : f 5 = _ := e13
      obtain ⟨f0, f1, f2, f3, f4, f5, f6⟩ := hpb.fz
      obtain ⟨k0, k1, k2, k3, k4, k5, k6⟩ := hpb.cells
      have hnew := set7_heap w1 g ⟨idB k, cx, acm, 1, 1, (q : Int)⟩ (.slice none 0 0) hpb
      have hgb := set7_gb w1 g ⟨idB k, cx, acm, 1, 1, (q : Int)⟩ (.slice none 0 0)
      have HX := Lib.hid hX
      have HC := Lib.hid hcl
      have HB := Lib.hid hB
      have HD := Lib.hid hD
      clear hX hcl hB hD hR hp
      refine wpOp_step rfl (fun K hK => ?_)
      simp only [putAll, Act.put, List.setIfInBounds_toArray, List.set_cons_succ, List.set_cons_zero]
      go_simp
      exact hK _ _ ⟨undef, (by show _ = Act.put _ (none) _; simp only [putAll, Act.put, List.setIfInBounds_toArray, List.set_cons_succ, List.set_cons_zero, *]; all_goals rfl), trivial, Ex.box hgb (by omega) ⟨_, _, hpb⟩ ⟨_, _, hnew⟩, ⟨HX.out.1.grown hgb (by simp; omega), fun _ => ⟨g, _, e13, hgN, hgB, ⟨rfl, hcx, rfl, rfl, rfl, q, rfl, hqb⟩, hnew⟩⟩⟩
    exact trivial
  · intro D f w1 hD hB hR hX
    obtain ⟨hT, hX14⟩ := hX
    obtain ⟨g, p, e5, hgN, hgB, hitm, hpb⟩ := hX14 (hD 14 (by decide))
    have hT' : Tap w1 B ao ts.length cap (i0 + 2) := by
      have h8 := hD 8 (by decide)
      have h := hT
      rw [h8] at h
      exact h
    have HT2 := Lib.hid hT'
    have HR2 := Lib.hid (hB.rd HR1.out HTB.out hBN)
    have HP2 := Lib.hid hpb
    have HE2 := Lib.hid hB
    have hs2 : N + 1 ≤ w1.heap.size := hsz hB
    have hg5l := hpb.lt
    obtain ⟨g5, hg5⟩ : ∃ x, x = g := ⟨_, rfl⟩
    rw [← hg5] at e5 hgN hgB hg5l
    unfold Hid at HP2
    rw [← hg5] at HP2
    have HP3 := Lib.hid HP2
    clear hX14 hT hT' hR hD hB hpb HP2 hg5
    have hsz2 : ∀ {w2 : World}, Ex B N w1 w2 → N + 1 ≤ w2.heap.size := fun h => by have := h.size; omega
    go_wp2_with fail
    simp only [putAll, Act.put, List.setIfInBounds_toArray, List.set_cons_succ, List.set_cons_zero, e5]
    refine wp_region_any (by kernel_rfl) ?_
    refine region_ssa [19, 20, 21, 22, 23, 24, 25, 26, 27, 28, 29, 30, 31, 32] (Ex B N w1) (Ex B N) (RLs (ItR2 B N g5)) (ItX2 B N g5 p ao ts.length cap i0) (fun f => rfl) (by kernel_rfl) (by kernel_rfl) ?_ ?_ ?_ ?_ (AllF.below (n := 15) ?_) ?_
    · exact (Ex.refl _ _ _).drew 1
    · intro f; exact ⟨HT2.out, fun _ => HP3.out, fun h => by cases h⟩
    · intro i v w2 w3 _ h hE; exact RLs.stab (StabL.all (l := ItR2 B N g5) ⟨Stab.row (by decide) _, Stab.val _, Stab.sat _, Stab.at (by decide) _, Stab.sat _, Stab.sat _, Stab.row (by decide) _, Stab.val _, Stab.sat _, Stab.at (by decide) _, Stab.sat _, Stab.sat _, Stab.atr, Stab.val _, Stab.any, trivial⟩) i v w2 w3 h hE
    · intro w2 w3 hB hE; exact hB.trans hE
    · refine AllF.step (m := 14) (j := 1) rfl ?_ ?_
      · intro D f w3 hD hB hR hp hcl hX
        have hlt := hX.1.lt
        have HX := Lib.hid hX
        have HC := Lib.hid hcl
        have HB := Lib.hid hB
        have HD := Lib.hid hD
        clear hX hcl hB hD hR hp
        refine wpOp_step rfl (fun K hK => ?_)
        simp only [putAll, Act.put, List.setIfInBounds_toArray, List.set_cons_succ, List.set_cons_zero]
        go_simp
        exact hK _ _ ⟨.slice (some ⟨w3.heap.size, 0, none⟩) 4 4, (by show _ = Act.put _ (some 19) _; simp only [putAll, Act.put, List.setIfInBounds_toArray, List.set_cons_succ, List.set_cons_zero, *]; all_goals rfl), ⟨w3.heap.size, rfl, by omega, heap_alloc_new _ _⟩, Ex.alloc _ _, ⟨HX.out.1.alloc _, fun h => (HX.out.2.1 h).below (below_new _ _), fun h => absurd h (noOf (D := D) (HC.out 14) (by kernel_rfl) HD.out)⟩⟩
      refine AllF.step (m := 13) (j := 2) rfl ?_ ?_
      · intro D f w3 hD hB hR hp hcl hX
        have HX := Lib.hid hX
        have HC := Lib.hid hcl
        have HB := Lib.hid hB
        have HD := Lib.hid hD
        clear hX hcl hB hD hR hp
        refine wpOp_step rfl (fun K hK => ?_)
        simp only [putAll, Act.put, List.setIfInBounds_toArray, List.set_cons_succ, List.set_cons_zero]
        go_simp
        exact hK _ _ ⟨.pointer (some ⟨B, 0, none⟩), (by show _ = Act.put _ (some 20) _; simp only [putAll, Act.put, List.setIfInBounds_toArray, List.set_cons_succ, List.set_cons_zero, *]; all_goals rfl), rfl, Ex.refl _ _ _, ⟨HX.out.1, HX.out.2.1, fun h => absurd h (noOf (D := D) (HC.out 14) (by kernel_rfl) HD.out)⟩⟩
      refine AllF.step (m := 12) (j := 3) rfl ?_ ?_
      · intro D f w3 hD hB hR hp hcl hX
        have e3 : f 20 = .pointer (some ⟨B, 0, none⟩) := (hpAt hp 1 (by kernel_rfl)).2
        have h8 : D 8 = false := noF (hcl 8) (by kernel_rfl) hD
        have T : Tap w3 B ao ts.length cap (i0 + 2) := by have h := hX.1; rw [h8, hD] at h; exact h
        have RD := hB.rd HR2.out HTB.out hBN
        have HX := Lib.hid hX
        have HC := Lib.hid hcl
        have HB := Lib.hid hB
        have HD := Lib.hid hD
        clear hX hcl hB hD hR hp
        refine wpOp_step rfl (fun K hK => ?_)
        simp only [putAll, Act.put, List.setIfInBounds_toArray, List.set_cons_succ, List.set_cons_zero]
        go_simp
        refine (Next_v B ao cap ts (i0 + 2) 4 _ T RD (by omega) (by omega) (by omega) 4 rfl).mono ?_; rintro e w2 ⟨r, rfl, hr, g2, z2, t2⟩
        go_simp
        have hX2 : Tap w2 B ao ts.length cap (i0 + 2 + (bif upd D 2 8 then 2 else bif upd D 2 2 then 1 else 0)) := by
          have e8 : upd D 2 8 = false := h8
          have e4 : upd D 2 2 = true := rfl
          rw [e8, e4]
          exact t2
        exact hK _ _ ⟨.int .i64 (r : Int), (by show _ = Act.put _ (some 21) _; simp only [putAll, Act.put, List.setIfInBounds_toArray, List.set_cons_succ, List.set_cons_zero, *]; all_goals rfl), ⟨r, rfl, hr⟩, Ex.of_gb g2, ⟨hX2, fun h => (HX.out.2.1 h).grown g2 (by simp; omega), fun h => absurd h (noOf (D := D) (HC.out 14) (by kernel_rfl) HD.out)⟩⟩
      refine AllF.step (m := 11) (j := 4) rfl ?_ ?_
      · intro D f w3 hD hB hR hp hcl hX
        obtain ⟨g, e2, hgB, hrow⟩ := (hpAt hp 0 (by kernel_rfl)).2
        replace e2 : f 19 = _ := e2
        obtain ⟨r, e4, hr⟩ := (hpAt hp 2 (by kernel_rfl)).2
        replace e4 : f 21 = _ := e4
        have hrI : (r : Int) < 4 := by omega
        have HX := Lib.hid hX
        have HC := Lib.hid hcl
        have HB := Lib.hid hB
        have HD := Lib.hid hD
        clear hX hcl hB hD hR hp
        refine wpOp_step rfl (fun K hK => ?_)
        simp only [putAll, Act.put, List.setIfInBounds_toArray, List.set_cons_succ, List.set_cons_zero]
        go_simp
        exact hK _ _ ⟨.pointer (some ⟨g, r, none⟩), (by show _ = Act.put _ (some 22) _; simp only [putAll, Act.put, List.setIfInBounds_toArray, List.set_cons_succ, List.set_cons_zero, *]; all_goals rfl), ⟨g, r, rfl, hr, hgB, hrow⟩, Ex.refl _ _ _, ⟨HX.out.1, HX.out.2.1, fun h => absurd h (noOf (D := D) (HC.out 14) (by kernel_rfl) HD.out)⟩⟩
      refine AllF.step (m := 10) (j := 5) rfl ?_ ?_
      · intro D f w3 hD hB hR hp hcl hX
        obtain ⟨g, r, e5, hr, hgB, hrow⟩ := (hpAt hp 3 (by kernel_rfl)).2
        replace e5 : f 22 = _ := e5
        obtain ⟨cx, hcx, hcell⟩ : ∃ cx, VPw cx ∧ w3.cell? ⟨g, r, none⟩ = some (.string cx) := by
          have : r = 0 ∨ r = 1 ∨ r = 2 ∨ r = 3 := by omega
          rcases this with rfl | rfl | rfl | rfl
          · exact ⟨va1, by simp [VPw], cell_in hrow rfl⟩
          · exact ⟨va2, by simp [VPw], cell_in hrow rfl⟩
          · exact ⟨va3, by simp [VPw], cell_in hrow rfl⟩
          · exact ⟨va4, by simp [VPw], cell_in hrow rfl⟩
        have HX := Lib.hid hX
        have HC := Lib.hid hcl
        have HB := Lib.hid hB
        have HD := Lib.hid hD
        clear hX hcl hB hD hR hp
        refine wpOp_step rfl (fun K hK => ?_)
        simp only [putAll, Act.put, List.setIfInBounds_toArray, List.set_cons_succ, List.set_cons_zero]
        go_simp
        exact hK _ _ ⟨.string cx, (by show _ = Act.put _ (some 23) _; simp only [putAll, Act.put, List.setIfInBounds_toArray, List.set_cons_succ, List.set_cons_zero, *]; all_goals rfl), ⟨cx, rfl, hcx⟩, Ex.refl _ _ _, ⟨HX.out.1, HX.out.2.1, fun h => absurd h (noOf (D := D) (HC.out 14) (by kernel_rfl) HD.out)⟩⟩
      refine AllF.step (m := 9) (j := 6) rfl ?_ ?_
      · intro D f w3 hD hB hR hp hcl hX
        obtain ⟨cx, e4, hcx⟩ := (hpAt hp 4 (by kernel_rfl)).2
        replace e4 : f 23 = _ := e4
        have HX := Lib.hid hX
        have HC := Lib.hid hcl
        have HB := Lib.hid hB
        have HD := Lib.hid hD
        clear hX hcl hB hD hR hp
        refine wpOp_step rfl (fun K hK => ?_)
        simp only [putAll, Act.put, List.setIfInBounds_toArray, List.set_cons_succ, List.set_cons_zero]
        go_simp
        exact hK _ _ ⟨.agg #[.string pwr, .string cx], (by show _ = Act.put _ (some 24) _; simp only [putAll, Act.put, List.setIfInBounds_toArray, List.set_cons_succ, List.set_cons_zero, *]; all_goals rfl), ⟨cx, rfl, hcx⟩, Ex.refl _ _ _, ⟨HX.out.1, HX.out.2.1, fun h => absurd h (noOf (D := D) (HC.out 14) (by kernel_rfl) HD.out)⟩⟩
      refine AllF.step (m := 8) (j := 7) rfl ?_ ?_
      · intro D f w3 hD hB hR hp hcl hX
        have hlt := hX.1.lt
        have HX := Lib.hid hX
        have HC := Lib.hid hcl
        have HB := Lib.hid hB
        have HD := Lib.hid hD
        clear hX hcl hB hD hR hp
        refine wpOp_step rfl (fun K hK => ?_)
        simp only [putAll, Act.put, List.setIfInBounds_toArray, List.set_cons_succ, List.set_cons_zero]
        go_simp
        exact hK _ _ ⟨.slice (some ⟨w3.heap.size, 0, none⟩) 3 3, (by show _ = Act.put _ (some 25) _; simp only [putAll, Act.put, List.setIfInBounds_toArray, List.set_cons_succ, List.set_cons_zero, *]; all_goals rfl), ⟨w3.heap.size, rfl, by omega, heap_alloc_new _ _⟩, Ex.alloc _ _, ⟨HX.out.1.alloc _, fun h => (HX.out.2.1 h).below (below_new _ _), fun h => absurd h (noOf (D := D) (HC.out 14) (by kernel_rfl) HD.out)⟩⟩
      refine AllF.step (m := 7) (j := 8) rfl ?_ ?_
      · intro D f w3 hD hB hR hp hcl hX
        have HX := Lib.hid hX
        have HC := Lib.hid hcl
        have HB := Lib.hid hB
        have HD := Lib.hid hD
        clear hX hcl hB hD hR hp
        refine wpOp_step rfl (fun K hK => ?_)
        simp only [putAll, Act.put, List.setIfInBounds_toArray, List.set_cons_succ, List.set_cons_zero]
        go_simp
        exact hK _ _ ⟨.pointer (some ⟨B, 0, none⟩), (by show _ = Act.put _ (some 26) _; simp only [putAll, Act.put, List.setIfInBounds_toArray, List.set_cons_succ, List.set_cons_zero, *]; all_goals rfl), rfl, Ex.refl _ _ _, ⟨HX.out.1, HX.out.2.1, fun h => absurd h (noOf (D := D) (HC.out 14) (by kernel_rfl) HD.out)⟩⟩
      refine AllF.step (m := 6) (j := 9) rfl ?_ ?_
      · intro D f w3 hD hB hR hp hcl hX
        have e3 : f 26 = .pointer (some ⟨B, 0, none⟩) := (hpAt hp 7 (by kernel_rfl)).2
        have h2 : D 2 = true := (hpAt hp 2 (by kernel_rfl)).1
        have T : Tap w3 B ao ts.length cap (i0 + 3) := by have h := hX.1; rw [hD, h2] at h; exact h
        have RD := hB.rd HR2.out HTB.out hBN
        have HX := Lib.hid hX
        have HC := Lib.hid hcl
        have HB := Lib.hid hB
        have HD := Lib.hid hD
        clear hX hcl hB hD hR hp
        refine wpOp_step rfl (fun K hK => ?_)
        simp only [putAll, Act.put, List.setIfInBounds_toArray, List.set_cons_succ, List.set_cons_zero]
        go_simp
        refine (Next_v B ao cap ts (i0 + 3) 3 _ T RD (by omega) (by omega) (by omega) 3 rfl).mono ?_; rintro e w2 ⟨r, rfl, hr, g2, z2, t2⟩
        go_simp
        have hX2 : Tap w2 B ao ts.length cap (i0 + 2 + (bif upd D 8 8 then 2 else bif upd D 8 2 then 1 else 0)) := by
          have e8 : upd D 8 8 = true := rfl
          rw [e8]
          exact t2
        exact hK _ _ ⟨.int .i64 (r : Int), (by show _ = Act.put _ (some 27) _; simp only [putAll, Act.put, List.setIfInBounds_toArray, List.set_cons_succ, List.set_cons_zero, *]; all_goals rfl), ⟨r, rfl, hr⟩, Ex.of_gb g2, ⟨hX2, fun h => (HX.out.2.1 h).grown g2 (by simp; omega), fun h => absurd h (noOf (D := D) (HC.out 14) (by kernel_rfl) HD.out)⟩⟩
      refine AllF.step (m := 5) (j := 10) rfl ?_ ?_
      · intro D f w3 hD hB hR hp hcl hX
        obtain ⟨g, e2, hgB, hrow⟩ := (hpAt hp 6 (by kernel_rfl)).2
        replace e2 : f 25 = _ := e2
        obtain ⟨r, e4, hr⟩ := (hpAt hp 8 (by kernel_rfl)).2
        replace e4 : f 27 = _ := e4
        have hrI : (r : Int) < 3 := by omega
        have HX := Lib.hid hX
        have HC := Lib.hid hcl
        have HB := Lib.hid hB
        have HD := Lib.hid hD
        clear hX hcl hB hD hR hp
        refine wpOp_step rfl (fun K hK => ?_)
        simp only [putAll, Act.put, List.setIfInBounds_toArray, List.set_cons_succ, List.set_cons_zero]
        go_simp
        exact hK _ _ ⟨.pointer (some ⟨g, r, none⟩), (by show _ = Act.put _ (some 28) _; simp only [putAll, Act.put, List.setIfInBounds_toArray, List.set_cons_succ, List.set_cons_zero, *]; all_goals rfl), ⟨g, r, rfl, hr, hgB, hrow⟩, Ex.refl _ _ _, ⟨HX.out.1, HX.out.2.1, fun h => absurd h (noOf (D := D) (HC.out 14) (by kernel_rfl) HD.out)⟩⟩
      refine AllF.step (m := 4) (j := 11) rfl ?_ ?_
      · intro D f w3 hD hB hR hp hcl hX
        obtain ⟨g, r, e5, hr, hgB, hrow⟩ := (hpAt hp 9 (by kernel_rfl)).2
        replace e5 : f 28 = _ := e5
        obtain ⟨cx, hcx, hcell⟩ : ∃ cx, VCo cx ∧ w3.cell? ⟨g, r, none⟩ = some (.string cx) := by
          have : r = 0 ∨ r = 1 ∨ r = 2 := by omega
          rcases this with rfl | rfl | rfl
          · exact ⟨vb1, by simp [VCo], cell_in hrow rfl⟩
          · exact ⟨vb2, by simp [VCo], cell_in hrow rfl⟩
          · exact ⟨vb3, by simp [VCo], cell_in hrow rfl⟩
        have HX := Lib.hid hX
        have HC := Lib.hid hcl
        have HB := Lib.hid hB
        have HD := Lib.hid hD
        clear hX hcl hB hD hR hp
        refine wpOp_step rfl (fun K hK => ?_)
        simp only [putAll, Act.put, List.setIfInBounds_toArray, List.set_cons_succ, List.set_cons_zero]
        go_simp
        exact hK _ _ ⟨.string cx, (by show _ = Act.put _ (some 29) _; simp only [putAll, Act.put, List.setIfInBounds_toArray, List.set_cons_succ, List.set_cons_zero, *]; all_goals rfl), ⟨cx, rfl, hcx⟩, Ex.refl _ _ _, ⟨HX.out.1, HX.out.2.1, fun h => absurd h (noOf (D := D) (HC.out 14) (by kernel_rfl) HD.out)⟩⟩
      refine AllF.step (m := 3) (j := 12) rfl ?_ ?_
      · intro D f w3 hD hB hR hp hcl hX
        obtain ⟨cx, e4, hcx⟩ := (hpAt hp 10 (by kernel_rfl)).2
        replace e4 : f 29 = _ := e4
        have HX := Lib.hid hX
        have HC := Lib.hid hcl
        have HB := Lib.hid hB
        have HD := Lib.hid hD
        clear hX hcl hB hD hR hp
        refine wpOp_step rfl (fun K hK => ?_)
        simp only [putAll, Act.put, List.setIfInBounds_toArray, List.set_cons_succ, List.set_cons_zero]
        go_simp
        exact hK _ _ ⟨.agg #[.string clr, .string cx], (by show _ = Act.put _ (some 30) _; simp only [putAll, Act.put, List.setIfInBounds_toArray, List.set_cons_succ, List.set_cons_zero, *]; all_goals rfl), ⟨cx, rfl, hcx⟩, Ex.refl _ _ _, ⟨HX.out.1, HX.out.2.1, fun h => absurd h (noOf (D := D) (HC.out 14) (by kernel_rfl) HD.out)⟩⟩
      refine AllF.step (m := 2) (j := 13) rfl ?_ ?_
      · intro D f w3 hD hB hR hp hcl hX
        obtain ⟨ca, e5, hca⟩ := (hpAt hp 5 (by kernel_rfl)).2
        replace e5 : f 24 = _ := e5
        obtain ⟨cb, e11, hcb⟩ := (hpAt hp 11 (by kernel_rfl)).2
        replace e11 : f 30 = _ := e11
        have hlt := hX.1.lt
        have HX := Lib.hid hX
        have HC := Lib.hid hcl
        have HB := Lib.hid hB
        have HD := Lib.hid hD
        clear hX hcl hB hD hR hp
        refine wpOp_step rfl (fun K hK => ?_)
        simp only [putAll, Act.put, List.setIfInBounds_toArray, List.set_cons_succ, List.set_cons_zero]
        go_simp
        exact hK _ _ ⟨.slice (some ⟨w3.heap.size, 0, none⟩) 2 2, (by show _ = Act.put _ (some 31) _; simp only [putAll, Act.put, List.setIfInBounds_toArray, List.set_cons_succ, List.set_cons_zero, *]; all_goals rfl), ⟨w3.heap.size, ca, cb, rfl, by omega, hsz2 HB.out, hca, hcb, heap_alloc_new _ _⟩, Ex.alloc _ _, ⟨HX.out.1.alloc _, fun h => (HX.out.2.1 h).below (below_new _ _), fun h => absurd h (noOf (D := D) (HC.out 14) (by kernel_rfl) HD.out)⟩⟩
      refine AllF.step (m := 1) (j := 14) rfl ?_ ?_
      · intro D f w3 hD hB hR hp hcl hX
        have HX := Lib.hid hX
        have HC := Lib.hid hcl
        have HB := Lib.hid hB
        have HD := Lib.hid hD
        clear hX hcl hB hD hR hp
        refine wpOp_step rfl (fun K hK => ?_)
        simp only [putAll, Act.put, List.setIfInBounds_toArray, List.set_cons_succ, List.set_cons_zero]
        go_simp
        exact hK _ _ ⟨.pointer (some ⟨g5, 6, none⟩), (by show _ = Act.put _ (some 32) _; simp only [putAll, Act.put, List.setIfInBounds_toArray, List.set_cons_succ, List.set_cons_zero, *]; all_goals rfl), rfl, Ex.refl _ _ _, ⟨HX.out.1, HX.out.2.1, fun h => absurd h (noOf (D := D) (HC.out 14) (by kernel_rfl) HD.out)⟩⟩
      refine AllF.step (m := 0) (j := 15) rfl ?_ ?_
      · intro D f w3 hD hB hR hp hcl hX
        have e13 : f 32 = .pointer (some ⟨g5, 6, none⟩) := (hpAt hp 13 (by kernel_rfl)).2
        obtain ⟨ga, ca, cb, e12, hgaB, hgaN, hca, hcb, hrow⟩ := (hpAt hp 12 (by kernel_rfl)).2
        replace e12 : f 31 = _ := e12
        have hpb := hX.2.1 hD
        have hne : ga ≠ g5 := fun e => by subst e; unfold PB at hpb; rw [hpb] at hrow; simp at hrow
        obtain ⟨f0, f1, f2, f3, f4, f5, f6⟩ := hpb.fz
        obtain ⟨k0, k1, k2, k3, k4, k5, k6⟩ := hpb.cells
        have HX := Lib.hid hX
        have HC := Lib.hid hcl
        have HB := Lib.hid hB
        have HD := Lib.hid hD
        clear hX hcl hB hD hR hp
        refine wpOp_step rfl (fun K hK => ?_)
        simp only [putAll, Act.put, List.setIfInBounds_toArray, List.set_cons_succ, List.set_cons_zero]
        go_simp
        exact hK _ _ ⟨undef, (by show _ = Act.put _ (none) _; simp only [putAll, Act.put, List.setIfInBounds_toArray, List.set_cons_succ, List.set_cons_zero, *]; all_goals rfl), trivial, Ex.box (gb_set w3 g5 6 _) (by omega) ⟨_, _, hpb⟩ ⟨_, _, hpb.set6 _⟩, ⟨HX.out.1.grown (gb_set w3 g5 6 _) (by simp; omega), fun h => absurd (show true = false from h) (by decide), fun _ => ⟨ga, ca, cb, hgaB, hgaN, hca, hcb, ((gb_set w3 g5 6 _).block ga (Array.getElem?_eq_some_iff.1 hrow).1 (by simp; exact hne)).trans hrow, hpb.set6 _⟩⟩⟩
      exact trivial
    · intro D f w3 hD hB hR hX
      obtain ⟨hT, _, hX14⟩ := hX
      obtain ⟨ga, ca, cb, hgaB, hgaN, hca, hcb, hrow, hpb⟩ := hX14 (hD 14 (by decide))
      have hT' : Tap w3 B ao ts.length cap (i0 + 4) := by
        have h8 := hD 8 (by decide)
        have h := hT
        rw [h8] at h
        exact h
      have HT4 := Lib.hid hT'
      have HR4 := Lib.hid (hB.rd HR2.out HTB.out hBN)
      have HP4 := Lib.hid hpb
      have HE4 := Lib.hid (HE2.out.trans hB)
      have HRW := Lib.hid hrow
      have hg5l4 := hpb.lt
      have hne : ga ≠ g5 := fun e => by subst e; unfold PB at hpb; rw [hpb] at hrow; simp at hrow
      clear hT hX14 hT' hR hD hB hpb hrow
      simp only [putAll, Act.put, List.setIfInBounds_toArray, List.set_cons_succ, List.set_cons_zero]
      go_wp2_with fail
      refine (Next_v B ao cap ts (i0 + 4) 2 _ HT4.out HR4.out (by omega) (by omega) (by omega) 2 rfl).mono ?_; rintro e w4 ⟨r, rfl, hr, g4, z4, t4⟩
      have HT5 := Lib.hid t4
      have HP5 := Lib.hid (HP4.out.grown g4 (by simp; omega))
      have HRW5 := Lib.hid ((g4.block ga (Array.getElem?_eq_some_iff.1 HRW.out).1 (by simp; omega)).trans HRW.out)
      have HE5 := Lib.hid (HE4.out.trans (Ex.of_gb g4))
      clear g4 z4 t4
      have hBx : ∃ p0 v0, PB w4 N p0 v0 := by
        rcases HE5.out.block N (by have := HS1.out; omega) (by omega) with e | ⟨_, _, h⟩
        · exact ⟨_, _, e.trans HQ1.out⟩
        · exact h
      obtain ⟨p0, v0, hq5⟩ := hBx
      have HGB : Hid (w.grownBy w4 (some B)) := ((Ex.of_below (B := B) (N := N) HB1.out).trans HE5.out).gb (by omega)
      have HQ5 := Lib.hid hq5
      obtain ⟨k0, k1, k2, k3, k4, k5, k6⟩ := HP5.out.cells
      rw [hN] at hq5
      obtain ⟨r0, r1, r2, r3, r4, r5, r6⟩ := hq5.cells
      obtain ⟨q0, q1, q2, q3, q4, q5, q6⟩ := hq5.fz
      have hNl : w.heap.size ≤ ga := by omega
      have hNg5 : w.heap.size ≠ g5 := by omega
      have hNga : w.heap.size ≠ ga := by omega
      have hNB : w.heap.size ≠ B := by omega
      have hrc : r = 0 ∨ r = 1 := by omega
      have HNN := Lib.hid hN
      clear hr hq5 hN
      rcases hrc with rfl | rfl
      · have x0 : w4.cell? ⟨ga, 0, none⟩ = some (.string pwr) := cell_in HRW5.out rfl
        have x1 : w4.cell? ⟨ga, 1, none⟩ = some (.string ca) := cell_in HRW5.out rfl
        have x2 : w4.cell? ⟨ga, 2, none⟩ = some (.string clr) := cell_in HRW5.out rfl
        have x3 : w4.cell? ⟨ga, 3, none⟩ = some (.string cb) := cell_in HRW5.out rfl
        have z0 : w4.frozen? ⟨ga, 0, none⟩ = false := by simp [World.frozen?, HRW5.out]
        have z1 : w4.frozen? ⟨ga, 1, none⟩ = false := by simp [World.frozen?, HRW5.out]
        have z2 : w4.frozen? ⟨ga, 2, none⟩ = false := by simp [World.frozen?, HRW5.out]
        have z3 : w4.frozen? ⟨ga, 3, none⟩ = false := by simp [World.frozen?, HRW5.out]
        go_wp2_with fail
        go_region
        all_goals
          go_wp2_with fail
          obtain ⟨WS, hWS⟩ : ∃ W, W = (((w4.setCell ⟨ga, 0, none⟩ (.string clr)).setCell ⟨ga, 1, none⟩ (.string cb)).setCell ⟨ga, 2, none⟩ (.string pwr)).setCell ⟨ga, 3, none⟩ (.string ca) := ⟨_, rfl⟩
          rw [← hWS]
          have hrowS : WS.heap[ga]? = some (.cells #[.string clr, .string cb, .string pwr, .string ca] 52 (0, 0)) := by
            have h := HRW5.out
            rw [hWS]
            simp [World.setCell, Array.getElem?_modify, h]
          have hgS : w4.grownBy WS (some ga) := by rw [hWS]; exact gb_trans (gb_trans (gb_trans (gb_set _ _ _ _) (gb_set _ _ _ _)) (gb_set _ _ _ _)) (gb_set _ _ _ _)
          have hgS2 : w.grownBy WS (some B) := by rw [hWS]; exact gb_far1 (gb_far1 (gb_far1 (gb_far1 HGB.out hNl _ _) hNl _ _) hNl _ _) hNl _ _
          have hrow6 : (set7 WS w.heap.size p (.slice (some ⟨ga, 0, none⟩) 2 2)).heap[ga]? = _ := ((set7_gb WS w.heap.size p (.slice (some ⟨ga, 0, none⟩) 2 2)).block ga (Array.getElem?_eq_some_iff.1 hrowS).1 (by simp; omega)).trans hrowS
          have hT7 := (HT5.out.grown hgS (by simp; omega)).grown (set7_gb WS w.heap.size p (.slice (some ⟨ga, 0, none⟩) 2 2)) (by simp; omega)
          have hG7 := gb_far7 hgS2 (Nat.le_refl _) p (.slice (some ⟨ga, 0, none⟩) 2 2)
          have hqS : PB WS w.heap.size p0 v0 := by
            have h := HQ5.out
            rw [HNN.out] at h
            exact h.grown hgS (by simp; omega)
          clear hWS
          obtain ⟨s0, s1, s2, s3, s4, s5, s6⟩ := hqS.cells
          clear r0 r1 r2 r3 r4 r5 r6 q0 q1 q2 q3 q4 q5 q6 x0 x1 x2 x3 z0 z1 z2 z3 k0 k1 k2 k3 k4 k5 k6
          refine bodyPost_ret (v := .agg #[.string p.id, .string p.co, .string p.br, .int .i64 p.d, .int .i64 p.c, .int .i64 p.a, .slice (some ⟨ga, 0, none⟩) 2 2]) (by simp [results, Tryd.results20, go_sem, s0, s1, s2, s3, s4, s5, s6]) rfl ?_
          have F1 : ((set7 WS w.heap.size p (.slice (some ⟨ga, 0, none⟩) 2 2)).drew).ownsRow w.heap.size 52 2 (.slice (some ⟨ga, 0, none⟩) 2 2) 2 (atv [(clr, cb), (pwr, ca)]) := World.ownsRow.drew (row_of2 hrow6 hNl)
          have F2 : w.grownBy ((set7 WS w.heap.size p (.slice (some ⟨ga, 0, none⟩) 2 2)).drew) (some B) := gb_drew hG7
          have F3 : Tap ((set7 WS w.heap.size p (.slice (some ⟨ga, 0, none⟩) 2 2)).drew) B ao ts.length cap (i0 + 5) := tap_drew hT7
          exact ⟨p, ga, [(clr, cb), (pwr, ca)], ca, cb, rfl, hitm, hca, hcb, .inr rfl, F1, F2, F3⟩
      · go_wp2_with fail
        refine bodyPost_ret (v := .agg #[.string p.id, .string p.co, .string p.br, .int .i64 p.d, .int .i64 p.c, .int .i64 p.a, .slice (some ⟨ga, 0, none⟩) 2 2]) (by simp [results, Tryd.results20, go_sem, r0, r1, r2, r3, r4, r5, r6]) rfl ?_
        have hrow6 : (set7 w4 w.heap.size p (.slice (some ⟨ga, 0, none⟩) 2 2)).heap[ga]? = _ := ((set7_gb w4 w.heap.size p (.slice (some ⟨ga, 0, none⟩) 2 2)).block ga (Array.getElem?_eq_some_iff.1 HRW5.out).1 (by simp; omega)).trans HRW5.out
        exact ⟨p, ga, _, ca, cb, rfl, hitm, hca, hcb, .inl rfl, row_of2 hrow6 hNl, gb_far7 HGB.out (Nat.le_refl _) _ _, HT5.out.grown (set7_gb w4 w.heap.size p (.slice (some ⟨ga, 0, none⟩) 2 2)) (by simp; omega)⟩
end Go.Proofs.YtkedgkfdmdlhoaaDoor.P9
