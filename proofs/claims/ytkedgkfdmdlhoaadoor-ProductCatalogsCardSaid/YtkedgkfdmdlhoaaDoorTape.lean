import Derived.Test.YtkedgkfdmdlhoaaDoorCls0
/- The tape of raw integers that the laws read. -/
namespace Go.Proofs.YtkedgkfdmdlhoaaDoor.C6
open Go.RowKit Go.Sort

/-- the tape's box: its list and how far it has been read -/
def Tap (w : World) (B : Nat) (ao : Option Addr) (n cap i : Nat) : Prop := w.heap[B]? = some (.cells #[.slice ao n cap, .int .i64 (i : Int)] 31 (0, 0))
theorem Tap.c0 {w : World} {B : Nat} {ao : Option Addr} {n cap i : Nat} (h : Tap w B ao n cap i) : w.cell? ⟨B, 0, none⟩ = some (.slice ao n cap) := by
  unfold Tap at h
  simp [World.cell?, h]
theorem Tap.c1 {w : World} {B : Nat} {ao : Option Addr} {n cap i : Nat} (h : Tap w B ao n cap i) : w.cell? ⟨B, 1, none⟩ = some (.int .i64 (i : Int)) := by
  unfold Tap at h
  simp [World.cell?, h]
theorem Tap.fz {w : World} {B : Nat} {ao : Option Addr} {n cap i : Nat} (h : Tap w B ao n cap i) (j : Nat) : w.frozen? ⟨B, j, none⟩ = false := by
  unfold Tap at h
  simp [World.frozen?, h]
theorem Tap.lt {w : World} {B : Nat} {ao : Option Addr} {n cap i : Nat} (h : Tap w B ao n cap i) : B < w.heap.size := (Array.getElem?_eq_some_iff.1 h).1
theorem Tap.set {w : World} {B : Nat} {ao : Option Addr} {n cap i : Nat} (h : Tap w B ao n cap i) (j : Nat) : Tap (w.setCell ⟨B, 1, none⟩ (.int .i64 (j : Int))) B ao n cap j := by
  unfold Tap at h ⊢
  simp [World.setCell, Array.getElem?_modify, h]
theorem Tap.grown {w w' : World} {B : Nat} {ao : Option Addr} {n cap i : Nat} (h : Tap w B ao n cap i) {row : Option Nat} (g : w.grownBy w' row) (hne : some B ≠ row) : Tap w' B ao n cap i := (g.block B h.lt hne).trans h

def NextPost (w : World) (B : Nat) (ao : Option Addr) (n cap i m : Nat) (e : Ending) (w' : World) : Prop := ∃ r : Nat, e = .returned (.int .i64 (r : Int)) ∧ r < m ∧ w.grownBy w' (some B) ∧ w'.heap.size = w.heap.size ∧ Tap w' B ao n cap (i + 1)
theorem NextPost.of {w : World} {B : Nat} {ao : Option Addr} {n cap i m r q : Nat} {e : Ending} (h : Tap w B ao n cap i) (he : e = .returned (.int .i64 (r : Int))) (hr : r < m) : NextPost w B ao n cap i m e ((w.drewN q).setCell ⟨B, 1, none⟩ (.int .i64 ((i : Int) + 1))) := by
  refine ⟨r, he, hr, gb_trans (gb_drewN w q _) (gb_set _ _ _ _), by simp [World.drewN], ?_⟩
  have : Tap (w.drewN q) B ao n cap i := h
  exact this.set (i + 1)

set_option maxHeartbeats 4000000 in
theorem Next_v (B : Nat) (ao : Option Addr) (cap : Nat) (ts : List Int) (i m : Nat) (w : World) (hb : Tap w B ao ts.length cap i) (ht : RdZ w ao cap ts) (hi : i ≤ 3000) (hm : 1 ≤ m) (hm2 : m ≤ 1000000) (n : Int) (hn : n = m) :
    Calls Tryd.prog 12 #[.pointer (some ⟨B, 0, none⟩), .int .i64 n] w (NextPost w B ao ts.length cap i m) := by
  subst hn
  have c0 := hb.c0
  have c1 := hb.c1
  have f1 := hb.fz 1
  have HB := Lib.hid hb
  have main : ∀ v : Int, ∃ u r : Nat, Hid (IntKind.u64.wrap v = (u : Int)) ∧ (u : Int) ≤ 18446744073709551615 ∧ r < m ∧ Hid ((u : Int) % (m : Int) = (r : Int)) ∧ 0 ≤ (u : Int) % (m : Int) ∧ (u : Int) % (m : Int) ≤ 1000000 := by
    intro v
    have hb : 0 ≤ IntKind.u64.wrap v ∧ IntKind.u64.wrap v ≤ 18446744073709551615 := by rw [IntKind.wrap_u64]; omega
    refine ⟨(IntKind.u64.wrap v).toNat, (IntKind.u64.wrap v).toNat % m, by unfold Hid; omega, by omega, Nat.mod_lt _ (by omega), (Int.natCast_emod _ _).symm, by omega, ?_⟩
    have := Int.emod_lt_of_pos (((IntKind.u64.wrap v).toNat : Nat) : Int) (show (0 : Int) < (m : Int) by omega)
    omega
  have hmx : max (m : Int) 1 = (m : Int) := by omega
  by_cases hlt : i < ts.length
  · obtain ⟨b, o, rfl, hc⟩ := ht.atZ hlt
    have hl1 : ts.length ≤ cap := by have := ht.1; rwa [intz_length] at this
    have hl2 := ht.2.1
    obtain ⟨l, hl⟩ : ∃ l, l = ts.length := ⟨_, rfl⟩
    obtain ⟨v, hv⟩ : ∃ v, v = ts.getD i 0 := ⟨_, rfl⟩
    obtain ⟨u, r, hu, hub, hr, he, he0, he1⟩ := main v
    rw [← hl] at HB c0 hlt hl1 ⊢
    rw [← hv] at hc
    have hw := hu.out
    have hd : decide (i < l) = true := by simp; omega
    clear hb ht main hl hv hu
    go_enter Tryd.func12, Tryd.ntmps12
    go_wp2_with fail
    go_quiet (fail)
    go_wp2_with fail
    go_quiet (fail)
    go_wp2_with fail
    go_ret
    exact NextPost.of HB.out (ret_i64 he.out) hr
  · obtain ⟨l, hl⟩ : ∃ l, l = ts.length := ⟨_, rfl⟩
    obtain ⟨u, r, hu, hub, hr, he, he0, he1⟩ := main 0
    rw [← hl] at HB c0 hlt ⊢
    have hd : decide (i < l) = false := by simp; omega
    have hu0 : u = 0 := by have := hu.out; rw [IntKind.wrap_u64] at this; omega
    subst hu0
    clear hb ht main hl hu
    have hr0 : Hid ((0 : Int) % (m : Int) = (r : Int)) := he
    go_enter Tryd.func12, Tryd.ntmps12
    go_wp2_with fail
    go_quiet (fail)
    go_wp2_with fail
    go_ret
    first
      | exact NextPost.of HB.out (ret_i64 hr0.out) hr
      | exact NextPost.of HB.out (ret_i64 (by have := hr0.out; simp at this; simpa using this)) hr
theorem Tap.new (w : World) (ao : Option Addr) (n cap : Nat) : Tap (w.alloc (.cells #[.slice ao n cap, .int .i64 0] 31)) w.heap.size ao n cap 0 := by
  unfold Tap World.alloc
  simp
theorem Tap.alloc {w : World} {B : Nat} {ao : Option Addr} {n cap i : Nat} (h : Tap w B ao n cap i) (o : Obj) : Tap (w.alloc o) B ao n cap i := h.grown (World.grownBy_alloc w o none) (by simp)
theorem Tap.keep {w w' : World} {B : Nat} {ao : Option Addr} {n cap i : Nat} (h : Tap w B ao n cap i) (b : Below w.heap.size w w') : Tap w' B ao n cap i := h.grown (below_gb b none) (by simp)
end Go.Proofs.YtkedgkfdmdlhoaaDoor.C6
