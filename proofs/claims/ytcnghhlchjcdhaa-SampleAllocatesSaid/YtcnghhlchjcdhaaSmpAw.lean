import Derived.Test.YtcnghhlchjcdhaaLists
import Derived.Test.YtcnghhlchjcdhaaRatsD
import Derived.Test.YtcnghhlchjcdhaaRatsE
import Derived.Laws.AppendOwn
import Derived.Laws.OwnMore
import Derived.Deep.QuietTactic
import Derived.Sort.OwnSorted
import Derived.Test.YtcnghhlchjcdhaaPairs
import Derived.Test.YtcnghhlchjcdhaaNum5
import Derived.Test.YtcnghhlchjcdhaaGcds2
import Derived.Test.YtcnghhlchjcdhaaInts10
/- Layer 10: three sizes of 1: areShares, commonMultiple, proportions. -/
namespace Go.Proofs.Ytcnghhlchjcdhaa
open Go.RowKit

theorem sgn_one : sgn 1 = 1 := by decide
theorem dd_one10 : (dd (1 : Rat).den).length = 0 := by decide
/-- three numbers of value 1 -/
def Ones (w : World) (ao : Option Addr) (cap : Nat) (rs : List RV) : Prop := RdR w ao cap rs ∧ rs.length = 3 ∧ ∀ u ∈ rs, Is w u 1
theorem Ones.below {w w' : World} {ao : Option Addr} {cap : Nat} {rs : List RV} (h : Ones w ao cap rs) (b : Below w.heap.size w w') : Ones w' ao cap rs := ⟨h.1.below b, h.2.1, fun u hu => (h.2.2 u hu).below b⟩
theorem Ones.at {w : World} {ao : Option Addr} {cap : Nat} {rs : List RV} (h : Ones w ao cap rs) : ∃ b o, ao = some ⟨b, o, none⟩ ∧ ∀ i, i < 3 → ∃ r : RV, At3 w b (o + i * 3) r ∧ Is w r 1 := by
  obtain ⟨b, o, e, hc⟩ := h.1.at (by rw [h.2.1]; omega)
  refine ⟨b, o, e, fun i hi => ⟨rs.getD i RV.nil, hc i (by rw [h.2.1]; exact hi), h.2.2 _ ?_⟩⟩
  have hl : i < rs.length := by rw [h.2.1]; exact hi
  simp [List.getD, hl]

set_option maxHeartbeats 4000000 in
set_option maxRecDepth 100000 in
theorem areShares_one (ao : Option Addr) (cap : Nat) (rs : List RV) (w : World) (h : Ones w ao cap rs) :
    Calls Try.prog 24 #[.slice ao 3 cap] w fun e w' => e = .returned (.bool true) ∧ Below w.heap.size w w' := by
  have HO := Lib.hid h
  have hc1 : 3 ≤ cap := by have := h.1.1; rw [h.2.1] at this; exact this
  have hc2 := h.1.2.1
  clear h
  go_enter Try.func24, Try.ntmps24
  go_wp2_with fail
  go_loopw [11, 3] (fun s11 s3 wr => ∃ i : Nat, i ≤ 3 ∧ s11 = .int .i64 (i : Int) ∧ ((i = 0 ∧ s3 = .bool false) ∨ (0 < i ∧ s3 = .bool true)) ∧ Hid (Below w.heap.size w wr)) (fun s11 _ _ => 3 - (intOf s11).toNat)
  case atStart => exact ⟨0, by omega, rfl, .inl ⟨rfl, rfl⟩, Below.refl _ _⟩
  case round =>
    obtain ⟨i, hi3, rfl, hs3, hbl⟩ := hrel
    by_cases hlt : i < 3
    · have hlt2 : (i : Int) < 3 := by omega
      obtain ⟨b, o, rfl, hat⟩ := (HO.out.below hbl.out).at
      obtain ⟨r, ⟨c0, c1, c2⟩, hr⟩ := hat i hlt
      obtain ⟨W5, hW5⟩ : ∃ W, W = wr.alloc (.cells #[.bool r.s, .slice r.ao r.n r.ca, .slice r.bo r.m r.cb] 33) := ⟨_, rfl⟩
      obtain ⟨g5, hg5⟩ : ∃ g, g = wr.heap.size := ⟨_, rfl⟩
      have b5 : Below wr.heap.size wr W5 := by rw [hW5]; exact below_new _ _
      have x5 : W5.heap[g5]? = some (.cells #[.bool r.s, .slice r.ao r.n r.ca, .slice r.bo r.m r.cb] 33 (0, 0)) := by rw [hW5, hg5]; exact heap_alloc_new _ _
      have SG : Hid (∀ W', Below W5.heap.size W5 W' → Calls Try.prog 43 #[.agg #[.bool r.s, .slice r.ao r.n r.ca, .slice r.bo r.m r.cb]] W' fun e w' => e = .returned (.int .i64 1) ∧ Below W'.heap.size W' w') := fun W' hb => by
        have := Sign_q r.s r.ao r.bo r.n r.ca r.m r.cb 2 1 W' ((hr.below b5).below hb)
        rw [sgn_one] at this
        exact this
      have HB5 : Hid (Below w.heap.size w W5) := hbl.out.trans (b5.mono hbl.out.size)
      have HX5 := Lib.hid x5
      clear hat hr b5 x5 hbl
      go_upto_region 7 with fail
      rw [← hW5]
      try rw [← hg5]
      clear hW5 hg5 c0 c1 c2
      obtain ⟨d0, d1, d2, _, _, _⟩ := at_block HX5.out
      go_wp2_with fail
      refine (SG.out W5 (Below.refl _ _)).mono ?_; rintro e w6 ⟨rfl, b6⟩
      have SG6 := Lib.hid (SG.out w6 b6)
      have HB6 : Hid (Below w.heap.size w w6) := HB5.out.trans (b6.mono HB5.out.size)
      have HX6 := Lib.hid (carry HX5.out b6)
      clear d0 d1 d2 b6 SG
      obtain ⟨d0, d1, d2, _, _, _⟩ := at_block HX6.out
      rcases hs3 with ⟨rfl, rfl⟩ | ⟨hi0, rfl⟩
      · go_wp2_with fail
        refine SG6.out.mono ?_; rintro e w7 ⟨rfl, b7⟩
        have HB7 : Hid (Below w.heap.size w w7) := HB6.out.trans (b7.mono HB6.out.size)
        clear b7
        go_wp2_with fail
        go_roundw
        case rel => exact ⟨1, by omega, by go_num, .inr ⟨by omega, rfl⟩, HB7⟩
        case measure => simp [intOf]
      · go_wp2_with fail
        go_roundw
        case rel => exact ⟨i + 1, by omega, by go_num, .inr ⟨by omega, rfl⟩, HB6⟩
        case measure => simp [intOf]; omega
    · obtain rfl : i = 3 := by omega
      have hlt2 : ¬ ((3 : Nat) : Int) < 3 := by omega
      rcases hs3 with ⟨h0, _⟩ | ⟨_, rfl⟩
      · omega
      · go_wp2_with fail
        go_ret
        exact ⟨rfl, hbl.out⟩

set_option maxHeartbeats 8000000 in
set_option maxRecDepth 100000 in
theorem commonMultiple_one (ao : Option Addr) (cap : Nat) (rs : List RV) (w : World) (h : Ones w ao cap rs) :
    Calls Try.prog 44 #[.slice ao 3 cap] w (MakesQ 1 2 w) := by
  have HO := Lib.hid h
  have hc1 : 3 ≤ cap := by have := h.1.1; rw [h.2.1] at this; exact this
  have hc2 := h.1.2.1
  obtain ⟨W1, hW1, B0, X0, hs1⟩ := boxR w
  have F1 : Hid (∀ w', Calls Try.prog 65 #[.int .i64 1] w' (MakesQ 1 2 w')) := fun w' => FromInt_q 1 (by omega) (by omega) w'
  have HB0 := Lib.hid B0
  have HX0 := Lib.hid X0
  have HS := Lib.hid hs1
  clear h B0 X0 hs1
  go_enter Try.func44, Try.ntmps44
  go_wp2_with fail
  rw [← hW1]
  clear hW1
  refine (F1.out _).mono ?_; rintro e W2 ⟨s2, a2, n2, c2, o2, m2, d2, rfl, cq2, b2⟩
  obtain ⟨W3, hW3⟩ : ∃ W, W = W2.alloc (.cells #[.bool s2, .slice a2 n2 c2, .slice o2 m2 d2] 33) := ⟨_, rfl⟩
  obtain ⟨g3, hg3⟩ : ∃ g, g = W2.heap.size := ⟨_, rfl⟩
  have b3 : Below W2.heap.size W2 W3 := by rw [hW3]; exact below_new _ _
  have x3 : Hid (W3.heap[g3]? = some (.cells #[.bool s2, .slice a2 n2 c2, .slice o2 m2 d2] 33 (0, 0))) := by rw [hW3, hg3]; exact heap_alloc_new _ _
  have X3 := Lib.hid ((HX0.out.below b2).below b3)
  have hcq : Hid (CQ W1.heap.size W3 s2 a2 n2 c2 o2 m2 d2 1 2) := cq2.below b3
  have HB3 : Hid (Below w.heap.size w W3) := HB0.out.trans ((b2.trans (b3.mono b2.size)).mono HB0.out.size)
  have hg3l : w.heap.size < g3 := by have := HS.out; have := b2.size; have := HX0.out.lt; omega
  clear b2 b3 cq2 F1
  go_upto_region 2 with fail
  rw [← hW3]
  try rw [← hg3]
  clear hW3 hg3
  go_wp2_with fail
  go_loopw [10] (fun s10 wr => ∃ i : Nat, i ≤ 3 ∧ s10 = .int .i64 (i : Int) ∧ Hid (Below W3.heap.size W3 wr)) (fun s10 _ => 3 - (intOf s10).toNat)
  case atStart => exact ⟨0, by omega, rfl, Below.refl _ _⟩
  case round =>
    obtain ⟨i, hi3, rfl, hbl⟩ := hrel
    have HBW : Hid (Below w.heap.size w wr) := HB3.out.trans (hbl.out.mono HB3.out.size)
    have hx := carry x3.out hbl.out
    by_cases hlt : i < 3
    · have hlt2 : (i : Int) < 3 := by omega
      obtain ⟨b, o, rfl, hat⟩ := (HO.out.below HBW.out).at
      obtain ⟨r, ⟨c0, c1, c2'⟩, hr⟩ := hat i hlt
      obtain ⟨W5, hW5⟩ : ∃ W, W = wr.alloc (.cells #[.bool r.s, .slice r.ao r.n r.ca, .slice r.bo r.m r.cb] 33) := ⟨_, rfl⟩
      obtain ⟨g5, hg5⟩ : ∃ g, g = wr.heap.size := ⟨_, rfl⟩
      have b5 : Below wr.heap.size wr W5 := by rw [hW5]; exact below_new _ _
      have x5 : Hid (W5.heap[g5]? = some (.cells #[.bool r.s, .slice r.ao r.n r.ca, .slice r.bo r.m r.cb] 33 (0, 0))) := by rw [hW5, hg5]; exact heap_alloc_new _ _
      have hx5 := Lib.hid (carry hx b5)
      have ML := Lib.hid (by have := Mul_q r.s s2 r.ao r.bo a2 o2 r.n r.ca r.m r.cb n2 c2 m2 d2 2 1 1 W5 (hr.below b5) (((hcq.out.below hbl.out).below b5).rq) (by omega); rw [Rat.mul_one] at this; exact this)
      have HB5 : Hid (Below W3.heap.size W3 W5) := hbl.out.trans (b5.mono hbl.out.size)
      clear hat hr b5 hbl hx HBW
      go_upto_region 5 with fail
      rw [← hW5]
      try rw [← hg5]
      clear hW5 hg5 c0 c1 c2'
      obtain ⟨e0, e1, e2, _, _, _⟩ := at_block x5.out
      obtain ⟨f0, f1, f2, _, _, _⟩ := at_block hx5.out
      go_wp2_with fail
      refine ML.out.mono ?_; rintro e w6 ⟨s6, a6, n6, c6, o6, m6, d6, rfl, cq6, b6⟩
      have hm6 : m6 = 0 := by rw [cq6.2.2.1]; exact dd_one10
      subst hm6
      have HB6 : Hid (Below W3.heap.size W3 w6) := HB5.out.trans (b6.mono HB5.out.size)
      have hfl : (Instr.field 33 (.agg #[.bool s6, .slice a6 n6 c6, .slice o6 0 d6]) 2).run Try.prog w6 = .ok (.slice o6 0 d6) w6 := by kernel_rfl
      clear cq6 b6 e0 e1 e2 f0 f1 f2 ML
      go_wp2_with fail
      go_roundw
      case rel => exact ⟨i + 1, by omega, by go_num, HB6⟩
      case measure => simp [intOf]; omega
    · obtain rfl : i = 3 := by omega
      have hlt2 : ¬ ((3 : Nat) : Int) < 3 := by omega
      obtain ⟨v0, v1, v2, _, _, _⟩ := at_block hx
      have X9 := X3.out.below hbl.out
      have hg9 := X9.lt
      obtain ⟨u0, u1, u2, q0, q1, q2, z0, z1, z2⟩ := X9.facts
      have HQ := Lib.hid (hcq.out.below hbl.out)
      have HS2 : Hid (w.heap.size + 1 ≤ W1.heap.size) := HX0.out.lt
      have hB := HBW
      clear hx hbl x3 hcq X3 X9 HBW
      go_wp2_with fail
      refine bodyPost_ret (v := .agg #[.bool s2, .slice a2 n2 c2, .slice o2 m2 d2]) (by simp [results, Try.results44, go_sem, q0, q1, q2]) rfl ?_
      exact MakesQ.lift HQ.out rfl HS2.out (Nat.le_refl _) hB.out _ _ _
end Go.Proofs.Ytcnghhlchjcdhaa
/- Layer 10: three sizes of 1: proportions. -/
namespace Go.Proofs.Ytcnghhlchjcdhaa
open Go.RowKit

theorem infoNat : (Try.prog.info? 31).map (fun i => (i.zero, i.size, i.bytes)) = some (some (.slice none 0 0), 1, 24) := by kernel_rfl
theorem infoInt10 : (Try.prog.info? 3).map (fun i => (i.zero, i.size, i.bytes)) = some (some (.int .i64 0), 1, 8) := by kernel_rfl
theorem row_n {w : World} {base n size : Nat} {e : TypeId} {v : Value} {xs : List Value} (h : w.ownsRow base e size v n xs) : ∃ ao cap, v = .slice ao n cap := by
  rcases h.2 with ⟨rfl, h0⟩ | ⟨g, cap, cur, rfl, _⟩
  · exact ⟨none, 0, by rw [h0]⟩
  · exact ⟨_, _, rfl⟩
theorem row_below {w w' : World} {base n size : Nat} {e : TypeId} {v : Value} {xs : List Value} (h : w.ownsRow base e size v n xs) (b : Below w.heap.size w w') : w'.ownsRow base e size v n xs := h.kept (below_grown b) (by cases hv : v.ownBlock <;> simp)
theorem row_lift {w : World} {base base' n size : Nat} {e : TypeId} {v : Value} {xs : List Value} (h : w.ownsRow base e size v n xs) (hb : base' ≤ base) : w.ownsRow base' e size v n xs :=
  ⟨h.1, h.2.imp id fun ⟨g, cap, cur, hv, h1, h2⟩ => ⟨g, cap, cur, hv, Nat.le_trans hb h1, h2⟩⟩
theorem row_gb {B : Nat} {w w' : World} {row : Option Nat} (h : w.grownBy w' row) (hB : B ≤ w.heap.size) (hr : ∀ k, row = some k → B ≤ k) : Below B w w' := (Below.refl B w).grown h hB hr
theorem cell_one (w : World) (u : Value) (t : TypeId) : ∀ j x, [u][j]? = some x → (w.alloc (.cells #[u] t)).cell? ((⟨w.heap.size, 0, none⟩ : Addr).add j) = some x := by
  intro j x hj
  rw [Addr.add_lit]
  match j with
  | 0 => cases hj; exact World.cell?_alloc_mark w _ _ (0, 0) 0
  | j + 1 => cases hj
/-- a number's block is none of a row of numbers -/
theorem Fr.keepRow {B base n : Nat} {w w' : World} {ao : Option Addr} {ca : Nat} {xs : List Nat} {v : Value} {vs : List Value} (h : Fr B w ao ca xs) (ho : w.ownsRow base 31 1 v n vs) (g : w.grownBy w' v.ownBlock) : Fr B w' ao ca xs := by
  obtain ⟨h1, h2, h3, h4⟩ := h
  refine ⟨h1, h2, h3, ?_⟩
  rcases h4 with h4 | ⟨b, e, hb, hw⟩
  · exact .inl h4
  · refine .inr ⟨b, e, hb, hw.grown g ?_⟩
    rcases ho.2 with ⟨rfl, _⟩ | ⟨k, cap, cur, rfl, _, hk, _⟩
    · intro q; cases q
    · intro q
      have : b = k := Option.some.inj q
      subst this
      obtain ⟨cur', h5, _⟩ := hw
      rw [h5] at hk
      cases hk
/-- natural numbers in memory, all of one value -/
def AllN (w : World) (vs : List Value) (N : Nat) : Prop := ∀ u ∈ vs, ∃ (ao : Option Addr) (ca : Nat), u = .slice ao (dig N).length ca ∧ Fr 0 w ao ca (dig N)
theorem AllN.below {w w' : World} {vs : List Value} {N : Nat} (h : AllN w vs N) (b : Below w.heap.size w w') : AllN w' vs N := fun u hu => by
  obtain ⟨a, c, e, hn⟩ := h u hu
  exact ⟨a, c, e, hn.below b⟩
theorem AllN.keepRow {base n : Nat} {w w' : World} {us vs : List Value} {N : Nat} {v : Value} (h : AllN w us N) (ho : w.ownsRow base 31 1 v n vs) (g : w.grownBy w' v.ownBlock) : AllN w' us N := fun u hu => by
  obtain ⟨a, c, e, hn⟩ := h u hu
  exact ⟨a, c, e, hn.keepRow ho g⟩
theorem sm_small {N : Nat} (h : N ≤ 4294967295) : Sm N 1 := ⟨by unfold pw; omega, by omega⟩
theorem rn_one : rn 1 = 1 := by decide

def PrOne (w : World) (e : Ending) (w' : World) : Prop := ∃ (a : Option Addr) (c : Nat) (vs : List Value) (so : Option Addr) (sn sc : Nat), e = .returned (.tuple #[.slice a 3 c, .slice so sn sc]) ∧ w'.ownsRow w.heap.size 31 1 (.slice a 3 c) 3 vs ∧ AllN w' vs 1 ∧ sn = (dig 3).length ∧ Fr 0 w' so sc (dig 3) ∧ Below w.heap.size w w'

set_option maxHeartbeats 8000000 in
set_option maxRecDepth 100000 in
theorem proportions_one (ao : Option Addr) (cap : Nat) (rs : List RV) (w : World) (h : Ones w ao cap rs) :
    Calls Try.prog 25 #[.slice ao 3 cap] w (PrOne w) := by
  obtain ⟨i0, hi, hz0, hz1, hz2⟩ := info_partsr infoNat
  have CM := Lib.hid (commonMultiple_one ao cap rs w h)
  have HO := Lib.hid h
  have hc1 : 3 ≤ cap := by have := h.1.1; rw [h.2.1] at this; exact this
  have hc2 := h.1.2.1
  clear h
  go_enter Try.func25, Try.ntmps25
  go_wp2_with fail
  refine CM.out.mono ?_; rintro e W2 ⟨s2, a2, n2, c2, o2, m2, d2, rfl, cq2, b2⟩
  obtain ⟨W3, hW3⟩ : ∃ W, W = W2.alloc (.cells #[.bool s2, .slice a2 n2 c2, .slice o2 m2 d2] 33) := ⟨_, rfl⟩
  obtain ⟨g3, hg3⟩ : ∃ g, g = W2.heap.size := ⟨_, rfl⟩
  have b3 : Below W2.heap.size W2 W3 := by rw [hW3]; exact below_new _ _
  have x3 : Hid (W3.heap[g3]? = some (.cells #[.bool s2, .slice a2 n2 c2, .slice o2 m2 d2] 33 (0, 0))) := by rw [hW3, hg3]; exact heap_alloc_new _ _
  have hcq : Hid (CQ w.heap.size W3 s2 a2 n2 c2 o2 m2 d2 1 2) := cq2.below b3
  have HB3 : Hid (Below w.heap.size w W3) := b2.trans (b3.mono b2.size)
  clear b2 b3 cq2 CM
  go_upto_region 4 with fail
  rw [← hW3]
  try rw [← hg3]
  clear hW3 hg3
  obtain ⟨M, hM⟩ : ∃ M, M = W3.heap.size := ⟨_, rfl⟩
  have HM := Lib.hid hM
  clear hM
  go_wp2_with fail
  go_loopw [14, 5, 6] (fun s14 s5 s6 wr => ∃ (i : Nat) (v : Value) (vs : List Value) (so : Option Addr) (sn sc : Nat), i ≤ 3 ∧ s14 = .int .i64 (i : Int) ∧ s5 = v ∧ s6 = .slice so sn sc ∧ Hid (wr.ownsRow M 31 1 v i vs) ∧ Hid (AllN wr vs 1) ∧ Hid (sn = (dig i).length) ∧ Hid (Fr 0 wr so sc (dig i)) ∧ Hid (Below M W3 wr)) (fun s14 _ _ _ => 3 - (intOf s14).toNat)
  case atStart => exact ⟨0, _, [], none, 0, 0, by omega, rfl, rfl, rfl, World.ownsRow_nil _ _ _ _, (show AllN _ [] 1 from fun u hu => by cases hu), rfl, ⟨Nat.le_of_eq rfl, by omega, lims_dig 0, .inl ⟨rfl, rfl, rfl⟩⟩, Below.refl _ _⟩
  case round =>
    obtain ⟨i, v, vs, so, sn, sc, hi3, rfl, rfl, rfl, hown, hall, hsn, hsum, hbl⟩ := hrel
    have hbl3 : Hid (Below W3.heap.size W3 wr) := by rw [← HM.out]; exact hbl.out
    have HBW : Hid (Below w.heap.size w wr) := HB3.out.trans (hbl3.out.mono HB3.out.size)
    by_cases hlt : i < 3
    · have hlt2 : (i : Int) < 3 := by omega
      obtain ⟨b, o, rfl, hat⟩ := (HO.out.below HBW.out).at
      obtain ⟨r, ⟨c0, c1, c2'⟩, hr⟩ := hat i hlt
      obtain ⟨W5, hW5⟩ : ∃ W, W = wr.alloc (.cells #[.bool r.s, .slice r.ao r.n r.ca, .slice r.bo r.m r.cb] 33) := ⟨_, rfl⟩
      obtain ⟨g5, hg5⟩ : ∃ g, g = wr.heap.size := ⟨_, rfl⟩
      have b5 : Below wr.heap.size wr W5 := by rw [hW5]; exact below_new _ _
      have x5 : Hid (W5.heap[g5]? = some (.cells #[.bool r.s, .slice r.ao r.n r.ca, .slice r.bo r.m r.cb] 33 (0, 0))) := by rw [hW5, hg5]; exact heap_alloc_new _ _
      have hx5 := Lib.hid (carry (carry x3.out hbl3.out) b5)
      have ML := Lib.hid (by have := Mul_q r.s s2 r.ao r.bo a2 o2 r.n r.ca r.m r.cb n2 c2 m2 d2 2 1 1 W5 (hr.below b5) (((hcq.out.below hbl3.out).below b5).rq) (by omega); rw [Rat.mul_one] at this; exact this)
      have hown5 := Lib.hid (row_below hown.out b5)
      have hall5 := Lib.hid (hall.out.below b5)
      have hsum5 := Lib.hid (hsum.out.below b5)
      have hwM : M ≤ wr.heap.size := by rw [HM.out]; exact hbl3.out.size
      have HB5 : Hid (Below M W3 W5) := hbl.out.trans (b5.mono hwM)
      have hM5 : Hid (M ≤ W5.heap.size) := Nat.le_trans hwM b5.size
      clear hat hr b5 hbl hbl3 HBW hown hall hsum hwM
      go_upto_region 7 with fail
      rw [← hW5]
      try rw [← hg5]
      clear hW5 hg5 c0 c1 c2'
      obtain ⟨e0, e1, e2, _, _, _⟩ := at_block x5.out
      obtain ⟨f0, f1, f2, _, _, _⟩ := at_block hx5.out
      go_wp2_with fail
      refine ML.out.mono ?_; rintro e w6 ⟨s6, a6, n6, c6, o6, m6, d6, rfl, cq6, b6⟩
      have hn6 : Hid (n6 = (dig 1).length) := by unfold Hid; rw [cq6.2.1, rn_one]
      have hN6 : Fr 0 w6 a6 c6 (dig 1) := by have := cq6.2.2.2.1; rw [rn_one] at this; exact this.mono (Nat.zero_le _)
      have hfl : (Instr.field 33 (.agg #[.bool s6, .slice a6 n6 c6, .slice o6 m6 d6]) 1).run Try.prog w6 = .ok (.slice a6 n6 c6) w6 := by kernel_rfl
      obtain ⟨W7, hW7⟩ : ∃ W, W = w6.alloc (.cells #[.slice a6 n6 c6] 31) := ⟨_, rfl⟩
      have b7 : Below w6.heap.size w6 W7 := by rw [hW7]; exact below_new _ _
      have hown7 := Lib.hid (row_below (row_below hown5.out b6) b7)
      have hall7 := Lib.hid ((hall5.out.below b6).below b7)
      have hsum7 := Lib.hid ((hsum5.out.below b6).below b7)
      have hN7 := Lib.hid (hN6.below b7)
      have HB7 : Hid (Below M W3 W7) := HB5.out.trans ((b6.trans (b7.mono b6.size)).mono hM5.out)
      have hM7 : Hid (M ≤ W7.heap.size) := Nat.le_trans hM5.out (Nat.le_trans b6.size b7.size)
      have hnews : Hid (∀ j u, [Value.slice a6 n6 c6][j]? = some u → W7.cell? ((⟨w6.heap.size, 0, none⟩ : Addr).add j) = some u) := by rw [hW7]; exact cell_one w6 _ _
      clear cq6 b6 e0 e1 e2 f0 f1 f2 ML hN6 b7 hown5 hall5 hsum5 HB5 hM5
      go_wp2_with (at_builtin; rw [← hW7]; refine wpList_append_own _ rfl _ _ 53 rfl M 31 i0 (.slice none 0 0) 1 24 Try.underlying53 hi hz0 hz1 hz2 rfl (by omega) _ _ _ rfl hown7.out ⟨w6.heap.size, 0, none⟩ 1 1 [.slice a6 n6 c6] rfl rfl hnews.out (by intro u hu; simp at hu; rcases hu with rfl; rfl) (by unfold maxLen; omega) (by omega) hM7.out ?_; intro v8 w8 hown8 hgr8 _; obtain ⟨a8, c8, rfl⟩ := row_n hown8; have HO8 := Lib.hid hown8; have HG8 := Lib.hid hgr8; have hs8 := Num.of_fr (hsum7.out.keepRow hown7.out hgr8) (sm_small (show i ≤ 4294967295 by omega)); have hn8 := Num.of_fr (hN7.out.keepRow hown7.out hgr8) (sm_small (show 1 ≤ 4294967295 by omega)); rw [← hsn.out] at hs8; rw [← hn6.out] at hn8; have AD := Lib.hid (Add_num hs8 hn8); clear hown8 hgr8 hs8 hn8)
      refine AD.out.mono ?_; rintro e w9 ⟨s9, sc9, rfl, fr9, b9⟩
      have hB8 : Below M W3 w8 := HB7.out.trans (row_gb HG8.out hM7.out (fun k e => (hown7.out.lt k e).1))
      have HB9 : Hid (Below M W3 w9) := hB8.trans (b9.mono (Nat.le_trans hM7.out HG8.out.size))
      have HO9 : Hid (w9.ownsRow M 31 1 (.slice a8 (i + 1) c8) (i + 1) (vs ++ [.slice a6 n6 c6])) := row_below HO8.out b9
      have HA9 : Hid (AllN w9 (vs ++ [.slice a6 n6 c6]) 1) := fun u hu => by
        rcases List.mem_append.1 hu with h | h
        · obtain ⟨a, c, e, hf⟩ := (hall7.out.keepRow hown7.out HG8.out) u h
          exact ⟨a, c, e, hf.below b9⟩
        · rw [List.mem_singleton.1 h]
          exact ⟨a6, c6, by rw [hn6.out], (hN7.out.keepRow hown7.out HG8.out).below b9⟩
      have HS9 : Hid (Fr 0 w9 s9 sc9 (dig (i + 1))) := fr9.mono (Nat.zero_le _)
      clear hB8 b9 fr9 AD
      go_wp2_with fail
      go_roundw
      case rel => exact ⟨i + 1, .slice a8 (i + 1) c8, _, s9, _, sc9, by omega, by go_num, rfl, rfl, HO9, HA9, rfl, HS9, HB9⟩
      case measure => simp [intOf]; omega
    · obtain rfl : i = 3 := by omega
      have hlt2 : ¬ ((3 : Nat) : Int) < 3 := by omega
      obtain ⟨a9, c9, rfl⟩ := row_n hown.out
      go_wp2_with fail
      refine bodyPost_ret (v := .tuple #[.slice a9 3 c9, .slice so sn sc]) (by simp [results, Try.results25, go_sem]) rfl ?_
      exact ⟨a9, c9, vs, so, sn, sc, rfl, row_lift hown.out (by rw [HM.out]; exact HB3.out.size), hall.out, hsn.out, hsum.out, HBW.out⟩
end Go.Proofs.Ytcnghhlchjcdhaa
/- Layer 10: three units in the order of a comparison that holds them equal: ranked. -/
namespace Go.Proofs.Ytcnghhlchjcdhaa
open Go.RowKit Go.Sort

def ints3 (a b c : Int) : List Value := [.int .i64 a, .int .i64 b, .int .i64 c]
def encF (x : Fin 3) : Value := .int .i64 (x.val : Int)
def d3 : Array (Fin 3) := #[0, 1, 2]
theorem row_put {α : Type} [Inhabited α] {w : World} {base g cap n q : Nat} {e : TypeId} {xs : List Value} (enc : α → Value) (d : Array α) (h : w.ownsRow base e 1 (.slice (some ⟨g, 0, none⟩) n cap) n xs) (hd : d.size = n) :
    ((putRow enc w g 0 d).drewN q).ownsRow base e 1 (.slice (some ⟨g, 0, none⟩) n cap) n (d.toList.map enc) ∧ w.grownBy ((putRow enc w g 0 d).drewN q) (some g) := by
  rcases h.2 with ⟨e0, _⟩ | ⟨g', cap', cur, e0, hb, hg, hn, hc, hs, ht⟩
  · cases e0
  · cases e0
    refine ⟨⟨by simp [hd], .inr ⟨g, cap, putCells enc 0 d cur, rfl, hb, ?_, hn, hc, by simp [putCells, hs], ?_⟩⟩, ⟨rfl, rfl, rfl, by simp [putRow, mapBlock, World.drewN], fun k hk hne => ?_⟩⟩
    · simp [putRow, mapBlock, World.drewN, Array.getElem?_modify, hg, onCells]
    · apply List.ext_getElem?
      intro j
      by_cases hj : j < n
      · rw [List.getElem?_take_of_lt (by omega), Array.getElem?_toList]
        have hjd : j < d.size := by omega
        have hjc : j < cur.size := by omega
        simp [putCells, hjd, hjc]
      · rw [List.getElem?_take_eq_none (by omega), List.getElem?_eq_none (by simp; omega)]
    · have : g ≠ k := fun e => hne (by rw [e])
      simp [putRow, mapBlock, World.drewN, Array.getElem?_modify, this]
theorem sw_old {w : World} {blk m k : Nat} {dk : Array (Fin 3)} {os : Array Obj} (hk : k < w.heap.size) (hne : k ≠ blk) : (sortWorld encF w blk 0 m dk os).heap[k]? = w.heap[k]? := by
  unfold sortWorld
  rw [heap_grow_old _ _ (by simpa [putRow, mapBlock, Sort.ahead] using hk)]
  have : blk ≠ k := fun e => hne e.symm
  simp [putRow, mapBlock, Sort.ahead, Array.getElem?_modify, this]
/-- the box of the remainders, and they: three numbers of value 1 -/
def Rem (w : World) (gR gr cR : Nat) : Prop := w.cell? ⟨gR, 0, none⟩ = some (.slice (some ⟨gr, 0, none⟩) 3 cR) ∧ ∀ i, i < 3 → ∃ (ao : Option Addr) (ca : Nat), w.cell? ⟨gr, i, none⟩ = some (.slice ao (dig 1).length ca) ∧ Fr 0 w ao ca (dig 1)
theorem Rem.same {w w' : World} {gR gr cR : Nat} (h : Rem w gR gr cR) (hb : ∀ k, k < w.heap.size → (∃ o v, w.cell? ⟨k, o, none⟩ = some v ∧ (v = .slice (some ⟨gr, 0, none⟩) 3 cR ∨ (∃ a c, v = .slice a (dig 1).length c) ∨ ∃ x, v = .int .u32 x)) → w'.heap[k]? = w.heap[k]?) : Rem w' gR gr cR := by
  obtain ⟨h1, h2⟩ := h
  refine ⟨(World.cell?_of_block (a := ⟨gR, 0, none⟩) (hb gR (World.block_lt_of_cell? _ _ h1) ⟨0, _, h1, .inl rfl⟩)).trans h1, fun i hi => ?_⟩
  obtain ⟨ao, ca, hc, hf⟩ := h2 i hi
  refine ⟨ao, ca, (World.cell?_of_block (a := ⟨gr, i, none⟩) (hb gr (World.block_lt_of_cell? _ _ hc) ⟨i, _, hc, .inr (.inl ⟨_, _, rfl⟩)⟩)).trans hc, ?_⟩
  obtain ⟨f1, f2, f3, f4⟩ := hf
  refine ⟨f1, f2, f3, ?_⟩
  rcases f4 with f4 | ⟨b, e, hB, ho⟩
  · exact .inl f4
  · exact .inr ⟨b, e, hB, ho.block (hb b ho.lt ⟨0, _, ho.cell (by decide), .inr (.inr ⟨_, rfl⟩)⟩)⟩

theorem cmpn_one : cmpn 1 1 = 0 := by decide
set_option maxHeartbeats 4000000 in
set_option maxRecDepth 100000 in
theorem rank_cmp (gR gr cR : Nat) (a b : Nat) (ha : a < 3) (hb : b < 3) (hc : 3 ≤ cR) (W : World) (h : Rem W gR gr cR) :
    Calls Try.prog 31 #[.int .i64 (a : Int), .int .i64 (b : Int), .pointer (some ⟨gR, 0, none⟩)] W fun e w' => e = .returned (.int .i64 0) ∧ ∃ q, w' = W.drewN q := by
  obtain ⟨h1, h2⟩ := h
  obtain ⟨ao, ca, ka, fa⟩ := h2 a ha
  obtain ⟨bo, cb, kb, fb⟩ := h2 b hb
  have sm := sm_small (show 1 ≤ 4294967295 by omega)
  have HC : Hid (∀ n, Calls Try.prog 32 #[.slice bo (dig 1).length cb, .slice ao (dig 1).length ca] (W.drewN n) fun e w' => e = .returned (.int .i64 0) ∧ W.drewN n = w') := fun n => by
    have := Compare_num (w := W.drewN n) (Num.of_fr (show Fr 0 (W.drewN n) bo cb (dig 1) from fb) sm) (Num.of_fr (show Fr 0 (W.drewN n) ao ca (dig 1) from fa) sm)
    rw [cmpn_one] at this
    exact this
  have haI : (a : Int) < 3 := by omega
  have hbI : (b : Int) < 3 := by omega
  have hac : a < cR := by omega
  have hbc : b < cR := by omega
  obtain ⟨n1, hn1⟩ : ∃ n, n = (dig 1).length := ⟨_, rfl⟩
  rw [← hn1] at HC ka kb
  clear fa fb h2 sm hn1
  go_enter Try.func31, Try.ntmps31
  go_wp2_with fail
  go_quiet ((go_at_call 32; exact Calls.quiet_of_same ((HC.out _).mono fun e w' h => ⟨h.1, h.2.symm⟩)))
  go_wp2_with fail
  go_ret
  exact ⟨rfl, _, rfl⟩

def S3 (base g : Nat) (w : World) (e : Ending) (w' : World) : Prop := e = .returned (.tuple #[]) ∧ w'.ownsRow base 3 1 (.slice (some ⟨g, 0, none⟩) 3 3) 3 (ints3 0 1 2) ∧ w.grownBy w' (some g)
theorem ins_const : Sort.insertionSort (ltOf fun _ _ : Fin 3 => 0) d3 0 3 = d3 := by decide +kernel
theorem rank_ins (base g gR gr cR : Nat) (hc : 3 ≤ cR) (w : World) (h : w.ownsRow base 3 1 (.slice (some ⟨g, 0, none⟩) 3 3) 3 (ints3 0 1 2)) (hr : Rem w gR gr cR) :
    Calls Try.prog 82 #[.slice (some ⟨g, 0, none⟩) 3 3, .int .i64 0, .int .i64 3, .func (.func 31) #[] #[.pointer (some ⟨gR, 0, none⟩)]] w (S3 base g w) := by
  have eg : ∀ args w, (callFunc 31 args).run Try.prog w = .ok (.enter 31 args) w := Go.Proofs.enters_of Try.func31 (by kernel_rfl) rfl
  have hrg : ∀ k o v, w.cell? ⟨k, o, none⟩ = some v → (v = .slice (some ⟨gr, 0, none⟩) 3 cR ∨ (∃ a c, v = .slice a (dig 1).length c) ∨ ∃ x, v = .int .u32 x) → k ≠ g := by
    rintro k o v hv hk rfl
    rcases h.2 with ⟨e0, _⟩ | ⟨g', cap', cur, e0, _, hg', _, _, hs', ht'⟩
    · cases e0
    · cases e0
      simp only [World.cell?, hg'] at hv
      simp at hv
      have hcur : cur.toList = ints3 0 1 2 := by rw [← ht', List.take_of_length_le (by rw [Array.length_toList]; omega)]
      have hv' : cur.toList[o]? = some v := by rw [Array.getElem?_toList]; exact hv
      rw [hcur] at hv'
      have hmem : v ∈ ints3 0 1 2 := List.mem_of_getElem? hv'
      unfold ints3 at hmem
      simp at hmem
      rcases hk with rfl | ⟨a, c, rfl⟩ | ⟨x, rfl⟩ <;> simp at hmem
  have hcmp : CmpReads Try.prog 31 #[.pointer (some ⟨gR, 0, none⟩)] encF (fun _ _ : Fin 3 => 0) g 0 d3.size w := by
    intro m os dk hs x y
    have hrem : Rem (sortWorld encF w g 0 m dk os) gR gr cR := hr.same fun k hk ⟨o, v, hv, hkind⟩ => sw_old hk (hrg k o v hv hkind)
    exact rank_cmp gR gr cR x.val y.val x.isLt y.isLt hc _ hrem
  have hH : Go.Sort.Holds encF w g 0 d3 := by
    intro j hj
    have hj3 : j < 3 := hj
    refine ⟨?_, by simpa using h.frozenAt j⟩
    rw [Nat.zero_add]
    refine (h.cellAt j (by omega)).trans ?_
    have : j = 0 ∨ j = 1 ∨ j = 2 := by omega
    rcases this with rfl | rfl | rfl <;> rfl
  have hins := Try.insertionSortCmpFunc_one encF (fun _ => rfl) (fun _ _ : Fin 3 => 0) 31 #[.pointer (some ⟨gR, 0, none⟩)] g 0 3 0 3 d3 w eg hcmp hH (by omega) (by decide) (by decide)
  refine hins.mono ?_
  rintro e w' ⟨rfl, n, rfl⟩
  rw [ins_const]
  obtain ⟨r1, r2⟩ := row_put (q := n) encF d3 h rfl
  exact ⟨rfl, r1, r2⟩
end Go.Proofs.Ytcnghhlchjcdhaa
/- Layer 10: slices.SortStableFunc of three equal units, ranked. -/
namespace Go.Proofs.Ytcnghhlchjcdhaa
open Go.RowKit Go.Sort

theorem gbs (w : World) (b j : Nat) (u : Value) : w.grownBy (w.setCell ⟨b, j, none⟩ u) (some b) :=
  ⟨rfl, rfl, rfl, by simp, fun i _ hne => Below.heap_setCell _ _ _ _ (fun e => hne (by rw [e]))⟩
theorem Rem.below {w w' : World} {gR gr cR : Nat} (h : Rem w gR gr cR) (b : Below w.heap.size w w') : Rem w' gR gr cR := h.same fun k hk _ => b.block k hk

set_option maxHeartbeats 4000000 in
theorem rank_stc (base g gR gr cR : Nat) (hc : 3 ≤ cR) (w : World) (h : w.ownsRow base 3 1 (.slice (some ⟨g, 0, none⟩) 3 3) 3 (ints3 0 1 2)) (hr : Rem w gR gr cR) :
    Calls Try.prog 74 #[.slice (some ⟨g, 0, none⟩) 3 3, .int .i64 3, .func (.func 31) #[] #[.pointer (some ⟨gR, 0, none⟩)]] w (S3 base g w) := by
  have HC := Lib.hid (rank_ins base g gR gr cR hc w h hr)
  clear h hr
  go_enter Try.func74, Try.ntmps74
  go_wp2_with fail
  go_loopw [7, 8] (fun s7 s8 wr => s7 = .int .i64 0 ∧ s8 = .int .i64 20 ∧ wr = w) (fun _ _ _ => 0)
  case atStart => exact ⟨rfl, rfl, rfl⟩
  case round =>
    obtain ⟨rfl, rfl, rfl⟩ := hrel
    go_wp2_with fail
    refine HC.out.mono ?_; rintro e w2 ⟨rfl, h2, h3⟩
    have H2 : Hid (S3 base g wr (.returned (.tuple #[])) w2) := ⟨rfl, h2, h3⟩
    clear h2 h3
    go_wp2_with fail
    go_loopw [6] (fun s6 wr => s6 = .int .i64 20 ∧ wr = w2) (fun _ _ => 0)
    case atStart => exact ⟨rfl, rfl⟩
    case round =>
      obtain ⟨rfl, rfl⟩ := hrel
      go_wp2_with fail
      go_end0
      exact H2.out
set_option maxHeartbeats 4000000 in
theorem rank_stable (base g gR gr cR : Nat) (hc : 3 ≤ cR) (w : World) (h : w.ownsRow base 3 1 (.slice (some ⟨g, 0, none⟩) 3 3) 3 (ints3 0 1 2)) (hr : Rem w gR gr cR) :
    Calls Try.prog 53 #[.slice (some ⟨g, 0, none⟩) 3 3, .func (.func 31) #[] #[.pointer (some ⟨gR, 0, none⟩)]] w (S3 base g w) := by
  have D := Lib.hid (rank_stc base g gR gr cR hc w h hr)
  clear h hr
  go_enter Try.func53, Try.ntmps53
  go_wp2_with fail
  refine D.out.mono ?_; rintro e w2 ⟨rfl, h2, h3⟩
  go_wp2_with fail
  go_end0
  exact ⟨rfl, h2, h3⟩

/-- the units laid so far -/
def fl : Nat → List Value
  | 0 => ints3 0 0 0
  | 1 => ints3 0 0 0
  | 2 => ints3 0 1 0
  | _ => ints3 0 1 2
theorem fl_set (i : Nat) (hi : i < 3) : (fl i).set i (.int .i64 (i : Int)) = fl (i + 1) := by
  have : i = 0 ∨ i = 1 ∨ i = 2 := by omega
  rcases this with rfl | rfl | rfl <;> rfl
theorem fl_len (i : Nat) : (fl i).length = 3 := by
  unfold fl
  split <;> rfl
def RankPost (w : World) (e : Ending) (w' : World) : Prop := ∃ g, e = .returned (.slice (some ⟨g, 0, none⟩) 3 3) ∧ w'.ownsRow w.heap.size 3 1 (.slice (some ⟨g, 0, none⟩) 3 3) 3 (ints3 0 1 2) ∧ Below w.heap.size w w'

set_option maxHeartbeats 8000000 in
set_option maxRecDepth 100000 in
theorem ranked_three (gR gr cR : Nat) (hc : 3 ≤ cR) (w : World) (hr : Rem w gR gr cR) :
    Calls Try.prog 30 #[.int .i64 3, .func (.func 31) #[] #[.pointer (some ⟨gR, 0, none⟩)]] w (RankPost w) := by
  obtain ⟨i0, hi, hz0, hz1, hz2⟩ := info_partsr infoInt10
  have HR := Lib.hid hr
  clear hr
  go_enter Try.func30, Try.ntmps30
  go_wp2_with (at_make; go_loud (refine wpList_make_full _ rfl _ _ 23 rfl w.heap.size 3 i0 (.int .i64 0) 1 Try.underlying23 hi hz0 hz1 _ _ _ _ 3 rfl rfl (by omega) (by omega) (by rw [hz2]; omega) (by unfold maxLen; omega) (Nat.le_refl _) ?_); intro w1 hown hgr)
  all_goals
    obtain ⟨g, hg⟩ : ∃ g, g = w.heap.size := ⟨_, rfl⟩
    have hbel : Below w.heap.size w w1 := (Below.refl _ _).grown hgr (Nat.le_refl _) (fun k hk => by cases hk)
    have hown0 : w1.ownsRow w.heap.size 3 1 (.slice (some ⟨w.heap.size, 0, none⟩) 3 3) 3 (fl 0) := by rw [show fl 0 = (madeCells (Value.int .i64 0).cells (3 * 1)).toList by kernel_rfl]; exact hown
    rw [← hg] at hown0
    clear hown hgr hi hz0 hz1 hz2
    have HB := Lib.hid hbel
    have HO := Lib.hid hown0
    have HG := Lib.hid hg
    clear hown0 hbel
    try rw [← hg]
    clear hg
    go_loopw [10] (fun s10 wr => ∃ i : Nat, i ≤ 3 ∧ s10 = .int .i64 (i : Int) ∧ Hid (wr.ownsRow g 3 1 (.slice (some ⟨g, 0, none⟩) 3 3) 3 (fl i)) ∧ Hid (Below g w wr)) (fun s10 _ => 3 - (intOf s10).toNat)
    case atStart => exact ⟨0, by omega, rfl, HO, by rw [HG.out]; exact HB⟩
    case round =>
      obtain ⟨i, hi3, rfl, ho, hb⟩ := hrel
      by_cases hlt : i < 3
      · have hlt2 : (i : Int) < 3 := by omega
        obtain ⟨v0, hv0⟩ : ∃ v, wr.cell? ⟨g, i, none⟩ = some v := ⟨_, (ho.out.cellAt i (by omega)).trans (List.getElem?_eq_getElem (by rw [fl_len]; omega))⟩
        have hf0 := ho.out.frozenAt i
        obtain ⟨hst, hgs⟩ := ho.out.stored i (.int .i64 (i : Int))
        rw [fl_set i hlt] at hst
        have HST := Lib.hid hst
        have HBS : Hid (Below g w (wr.setCell ⟨g, i, none⟩ (.int .i64 (i : Int)))) := hb.out.setCell (Nat.le_refl _) _
        clear hst hgs ho hb
        go_wp2_with fail
        go_roundw
        case rel => exact ⟨i + 1, by omega, by go_num, HST, HBS⟩
        case measure => simp [intOf]; omega
      · obtain rfl : i = 3 := by omega
        have hlt2 : ¬ ((3 : Nat) : Int) < 3 := by omega
        have hb' := hb.out
        rw [HG.out] at hb'
        have HSR := Lib.hid (rank_stable g g gR gr cR hc wr ho.out (HR.out.below hb'))
        have HBB := Lib.hid hb'
        clear hb'
        go_wp2_with fail
        refine HSR.out.mono ?_; rintro e w4 ⟨rfl, h4, g4⟩
        have H4 := Lib.hid h4
        have HB4 : Hid (Below w.heap.size w w4) := HBB.out.grown g4 HBB.out.size (fun k e => by cases e; rw [HG.out]; exact Nat.le_refl _)
        clear h4 g4
        go_wp2_with fail
        go_ret
        exact ⟨g, rfl, by rw [← HG.out]; exact H4.out, HB4.out⟩
end Go.Proofs.Ytcnghhlchjcdhaa
/- Drawn regions by values: the steps one after the other (for texts over numbers). -/
namespace Go.Proofs.Ytcnghhlchjcdhaa.SN
open Go.RowKit Go.Sort

/-- each from i on, m of them, one after the other -/
def AllF (S : Nat → Prop) : Nat → Nat → Prop
  | _, 0 => True
  | i, m + 1 => S i ∧ AllF S (i + 1) m
theorem AllF.step {S : Nat → Prop} {i m j : Nat} (hj : i + 1 = j) (h : S i) (t : AllF S j m) : AllF S i (m + 1) := by subst hj; exact ⟨h, t⟩
theorem AllF.at {S : Nat → Prop} : ∀ (m i : Nat), AllF S i m → ∀ k, i ≤ k → k < i + m → S k := by
  intro m
  induction m with
  | zero => intro i _ k h1 h2; omega
  | succ m ih =>
    intro i h k h1 h2
    by_cases hk : k = i
    · subst hk; exact h.1
    · exact ih (i + 1) h.2 k (by omega) (by omega)
theorem AllF.below {S : Nat → Prop} {n : Nat} (h : AllF S 0 n) : AllBelow S n := by
  have : ∀ m, m ≤ n → AllBelow S m := by
    intro m
    induction m with
    | zero => intro _; trivial
    | succ m ih => intro hm; exact ⟨ih (by omega), h.at n 0 m (by omega) (by omega)⟩
  exact this n (Nat.le_refl _)
theorem hpAt {P : Nat → Prop} {l : List Nat} (h : ∀ k ∈ l, P k) (k : Nat) (hk : l.contains k = true) : P k := h k (by simpa using hk)
theorem noOf {D : Nat → Bool} {l : List Nat} {j k : Nat} (hcl : D j = true → ∀ k ∈ l, D k = true) (hk : l.contains k = true) (h : D k = false) : ¬ D j = true := by
  intro hj
  have := hcl hj k (by simpa using hk)
  rw [h] at this
  cases this
theorem noF {D : Nat → Bool} {l : List Nat} {j k : Nat} (hcl : D j = true → ∀ k ∈ l, D k = true) (hk : l.contains k = true) (h : D k = false) : D j = false := by
  cases hd : D j
  · rfl
  · exact absurd hd (noOf hcl hk h)

def RP (l : List (Value → Prop)) (i : Nat) (v : Value) (_ : World) : Prop := (l.getD i (fun _ => True)) v
def pV (x : Value) : Value → Prop := fun v => v = x
def pT : Value → Prop := fun _ => True
end Go.Proofs.Ytcnghhlchjcdhaa.SN
/- Layer 10: Allocate of ten among three sizes of 1. -/
namespace Go.Proofs.Ytcnghhlchjcdhaa
open Go.RowKit Go.Sort SN

def cl : Nat → List Value
  | 0 => ints3 0 0 0
  | 1 => ints3 3 0 0
  | 2 => ints3 3 3 0
  | _ => ints3 3 3 3
theorem cl_set (i : Nat) (hi : i < 3) : (cl i).set i (.int .i64 3) = cl (i + 1) := by
  have : i = 0 ∨ i = 1 ∨ i = 2 := by omega
  rcases this with rfl | rfl | rfl <;> rfl
theorem cl_len (i : Nat) : (cl i).length = 3 := by
  unfold cl
  split <;> rfl
/-- the remainders laid so far -/
def RemL (w : World) (gM k : Nat) : Prop := ∀ j, j < k → ∃ (ao : Option Addr) (ca : Nat), w.cell? ⟨gM, j, none⟩ = some (.slice ao (dig 1).length ca) ∧ Fr 0 w ao ca (dig 1)
theorem Fr.setne {B g j : Nat} {w : World} {ao : Option Addr} {ca : Nat} {xs : List Nat} {v : Value} {cur : Array Value} {t : TypeId} (h : Fr B w ao ca xs) (hg : w.heap[g]? = some (.cells cur t (0, 0))) (ht : t ≠ 71) : Fr B (w.setCell ⟨g, j, none⟩ v) ao ca xs := by
  obtain ⟨h1, h2, h3, h4⟩ := h
  refine ⟨h1, h2, h3, ?_⟩
  rcases h4 with h4 | ⟨b, e, hb, hw⟩
  · exact .inl h4
  · refine .inr ⟨b, e, hb, hw.block (Below.heap_setCell _ _ _ _ ?_)⟩
    show b ≠ g
    rintro rfl
    obtain ⟨cur', h5, _⟩ := hw
    rw [h5] at hg
    cases hg
    exact ht rfl
theorem row_blk {w : World} {base g n cap : Nat} {e : TypeId} {xs : List Value} (h : w.ownsRow base e 1 (.slice (some ⟨g, 0, none⟩) n cap) n xs) : ∃ cur, w.heap[g]? = some (.cells cur e (0, 0)) := by
  rcases h.2 with ⟨e0, _⟩ | ⟨g', cap', cur, e0, _, hg, _⟩
  · cases e0
  · cases e0; exact ⟨cur, hg⟩
theorem RemL.below {w w' : World} {gM k : Nat} (h : RemL w gM k) (b : Below w.heap.size w w') : RemL w' gM k := fun j hj => by
  obtain ⟨ao, ca, hc, hf⟩ := h j hj
  exact ⟨ao, ca, (World.cell?_of_block (a := ⟨gM, j, none⟩) (b.block gM (World.block_lt_of_cell? _ _ hc))).trans hc, hf.below b⟩
theorem RemL.setne {w : World} {gM k g j : Nat} {v : Value} {cur : Array Value} {t : TypeId} (h : RemL w gM k) (hg : w.heap[g]? = some (.cells cur t (0, 0))) (ht : t ≠ 71) (hne : g ≠ gM) : RemL (w.setCell ⟨g, j, none⟩ v) gM k := fun i hi => by
  obtain ⟨ao, ca, hc, hf⟩ := h i hi
  exact ⟨ao, ca, (World.cell?_setCell_other _ _ _ _ (by intro e; simp only [Addr.mk.injEq] at e; exact hne e.1)).trans hc, hf.setne hg ht⟩
theorem RemL.put {w : World} {gM k ca : Nat} {ao : Option Addr} {cur : Array Value} (h : RemL w gM k) (hg : w.heap[gM]? = some (.cells cur 31 (0, 0))) (hk : k < cur.size) (hf : Fr 0 w ao ca (dig 1)) : RemL (w.setCell ⟨gM, k, none⟩ (.slice ao (dig 1).length ca)) gM (k + 1) := fun i hi => by
  by_cases e : i = k
  · subst e
    exact ⟨ao, ca, World.cell?_setCell_same' _ _ _ (by simp [World.cell?, hg, hk]), hf.setne hg (by decide)⟩
  · obtain ⟨ao', ca', hc, hf'⟩ := h i (by omega)
    exact ⟨ao', ca', (World.cell?_setCell_other _ _ _ _ (by intro q; simp only [Addr.mk.injEq] at q; exact e q.2.1.symm)).trans hc, hf'.setne hg (by decide)⟩

def AlR (gC gM i : Nat) (a5 : Option Addr) (c5 : Nat) : List (Value → Prop) := [pV (.slice (some ⟨gC, 0, none⟩) 3 3), pV (.int .i64 (i : Int)), pV (.slice (some ⟨gM, 0, none⟩) 3 3), pV (.int .i64 (i : Int)), pV (.int .u64 3), pV (.int .i64 3), pV (.slice a5 (dig 1).length c5), pV (.pointer (some ⟨gC, i, none⟩)), pT, pV (.pointer (some ⟨gM, i, none⟩)), pT]
/-- the world within the region of the two stores -/
def WX (gC gM i : Nat) (a5 : Option Addr) (n1 c5 : Nat) (W : World) (D : Nat → Bool) (w : World) : Prop := w = bif D 10 then (W.setCell ⟨gC, i, none⟩ (.int .i64 3)).setCell ⟨gM, i, none⟩ (.slice a5 n1 c5) else bif D 8 then W.setCell ⟨gC, i, none⟩ (.int .i64 3) else W
theorem WX.one {gC gM i : Nat} {a5 : Option Addr} {n1 c5 : Nat} {W : World} {D : Nat → Bool} (h : D 10 = false) : WX gC gM i a5 n1 c5 W (upd D 8) (W.setCell ⟨gC, i, none⟩ (.int .i64 3)) := by
  unfold WX
  have e8 : upd D 8 8 = true := rfl
  have e10 : upd D 8 10 = false := h
  rw [e8, e10]
  rfl
set_option maxHeartbeats 16000000 in
set_option maxRecDepth 100000 in
theorem Allocate_ten (ao : Option Addr) (cap : Nat) (rs : List RV) (w : World) (h : Ones w ao cap rs) :
    Calls Try.prog 9 #[.int .i64 10, .slice ao 3 cap] w fun e w' => ∃ (a : Option Addr) (c : Nat), e = .returned (.tuple #[.slice a 3 c, .int .i64 0]) ∧ w'.ownsRow w.heap.size 3 1 (.slice a 3 c) 3 (ints3 4 3 3) ∧ Below w.heap.size w w' := by
  obtain ⟨i0, hi, hz0, hz1, hz2⟩ := info_partsr infoInt10
  obtain ⟨j0, hj, hy0, hy1, hy2⟩ := info_partsr infoNat
  have AS := Lib.hid (areShares_one ao cap rs w h)
  have HO := Lib.hid h
  clear h
  go_enter Try.func9, Try.ntmps9
  go_wp2_with fail
  refine AS.out.mono ?_; rintro e w2 ⟨rfl, b2⟩
  have PR := Lib.hid (proportions_one ao cap rs w2 (HO.out.below b2))
  have HB2 := Lib.hid b2
  clear b2 AS
  go_wp2_with fail
  refine PR.out.mono ?_; rintro e w5 ⟨aS, cS, vs, so, sn, sc, rfl, hown, hall, hsn, hsum, b5⟩
  obtain ⟨G, hG⟩ : ∃ G, G = w5.heap.size := ⟨_, rfl⟩
  have HOS := Lib.hid hown
  have HAL := Lib.hid hall
  have HSN := Lib.hid hsn
  have HSU := Lib.hid hsum
  have HB5 : Hid (Below w.heap.size w w5) := HB2.out.trans (b5.mono HB2.out.size)
  have HG := Lib.hid hG
  clear hown hall hsn hsum b5 hG PR HB2
  go_upto_region 7 with (at_make; go_loud (refine wpList_make_full _ rfl _ _ 23 rfl w5.heap.size 3 i0 (.int .i64 0) 1 Try.underlying23 hi hz0 hz1 _ _ _ _ 3 rfl rfl (by omega) (by omega) (by rw [hz2]; omega) (by unfold maxLen; omega) (Nat.le_refl _) ?_); intro w6 hown6 hgr6)
  all_goals
    obtain ⟨gC, hgC⟩ : ∃ g, g = w5.heap.size := ⟨_, rfl⟩
    have B6 : Below w5.heap.size w5 w6 := (Below.refl _ _).grown hgr6 (Nat.le_refl _) (fun k hk => by cases hk)
    have hC6 : w6.ownsRow w5.heap.size 3 1 (.slice (some ⟨w5.heap.size, 0, none⟩) 3 3) 3 (cl 0) := by rw [show cl 0 = (madeCells (Value.int .i64 0).cells (3 * 1)).toList by kernel_rfl]; exact hown6
    rw [← hgC] at hC6
    have hltC := (hC6.lt gC rfl).2
    have HC6 := Lib.hid hC6
    have HB6 := Lib.hid B6
    have HGC := Lib.hid hgC
    clear hown6 hgr6 hC6 B6
    try rw [← hgC]
    clear hgC
    go_upto_region 8 with (at_make; go_loud (refine wpList_make_full _ rfl _ _ 53 rfl w6.heap.size 31 j0 (.slice none 0 0) 1 Try.underlying53 hj hy0 hy1 _ _ _ _ 3 rfl rfl (by omega) (by omega) (by rw [hy2]; omega) (by unfold maxLen; omega) (Nat.le_refl _) ?_); intro w7 hown7 hgr7)
    all_goals
      obtain ⟨gM, hgM⟩ : ∃ g, g = w6.heap.size := ⟨_, rfl⟩
      have B7 : Below w6.heap.size w6 w7 := (Below.refl _ _).grown hgr7 (Nat.le_refl _) (fun k hk => by cases hk)
      obtain ⟨rl, hrl⟩ : ∃ l, l = (madeCells (Value.slice none 0 0).cells (3 * 1)).toList := ⟨_, rfl⟩
      rw [← hrl, ← hgM] at hown7
      obtain ⟨W8, hW8⟩ : ∃ W, W = w7.alloc (.cells #[.slice (some ⟨gM, 0, none⟩) 3 3] 53) := ⟨_, rfl⟩
      obtain ⟨gX, hgX⟩ : ∃ g, g = w7.heap.size := ⟨_, rfl⟩
      have b8 : Below w7.heap.size w7 W8 := by rw [hW8]; exact below_new _ _
      have x8 : Hid (W8.heap[gX]? = some (.cells #[.slice (some ⟨gM, 0, none⟩) 3 3] 53 (0, 0))) := by rw [hW8, hgX]; exact heap_alloc_new _ _
      have hltM := (hown7.lt gM rfl).2
      have hs6 := HB6.out.size
      have HC8 : Hid (W8.ownsRow gC 3 1 (.slice (some ⟨gC, 0, none⟩) 3 3) 3 (cl 0)) := row_below (row_below HC6.out B7) b8
      have HM8 : Hid (W8.ownsRow gM 31 1 (.slice (some ⟨gM, 0, none⟩) 3 3) 3 rl) := row_below hown7 b8
      have HW8 : Hid (Below G w5 W8) := by
        rw [HG.out]
        exact HB6.out.trans ((B7.trans (b8.mono B7.size)).mono HB6.out.size)
      have HORD : Hid (G ≤ gC ∧ gC < gM ∧ gM < gX) := ⟨by rw [HGC.out, HG.out]; exact Nat.le_refl _, by omega, by omega⟩
      try rw [← hgM]
      rw [← hW8]
      try rw [← hgX]
      clear hown7 hgr7 B7 b8 hW8 hgM hgX hltM hs6 hltC HC6 HB6 hi hz0 hz1 hz2 hj hy0 hy1 hy2
      go_wp2_with fail
      go_loopw [47, 9] (fun s47 s9 wr => ∃ (i : Nat) (l : Int) (rl : List Value), i ≤ 3 ∧ s47 = .int .i64 (i : Int) ∧ s9 = .int .i64 l ∧ Hid (l = 10 - 3 * (i : Int)) ∧ Hid (wr.ownsRow gC 3 1 (.slice (some ⟨gC, 0, none⟩) 3 3) 3 (cl i)) ∧ Hid (wr.ownsRow gM 31 1 (.slice (some ⟨gM, 0, none⟩) 3 3) 3 rl) ∧ Hid (RemL wr gM i) ∧ Hid (wr.heap[gX]? = some (.cells #[.slice (some ⟨gM, 0, none⟩) 3 3] 53 (0, 0))) ∧ Hid (Below G w5 wr)) (fun s47 _ _ => 3 - (intOf s47).toNat)
      case atStart => exact ⟨0, 10, rl, by omega, rfl, rfl, by show (10 : Int) = 10 - 3 * ((0 : Nat) : Int); omega, HC8, HM8, fun j hj => absurd hj (Nat.not_lt_zero _), x8, HW8⟩
      case round =>
        obtain ⟨i, l, rl, hi3, rfl, rfl, hl, hC, hM, hR, hX, hb⟩ := hrel
        by_cases hlt : i < 3
        · have hlt2 : (i : Int) < 3 := by omega
          have hbw : Below w5.heap.size w5 wr := by rw [← HG.out]; exact hb.out
          have hSr := row_below HOS.out hbw
          have hAl := HAL.out.below hbw
          have hSu := HSU.out.below hbw
          obtain ⟨gS, hgS⟩ : ∃ g, aS = some ⟨g, 0, none⟩ := by
            rcases hSr.2 with ⟨e0, h0⟩ | ⟨g, c', cur, e0, _⟩
            · omega
            · exact ⟨g, by injection e0⟩
          subst hgS
          have hcS : 3 ≤ cS ∧ cS ≤ 9223372036854775807 := by
            rcases hSr.2 with ⟨e0, h0⟩ | ⟨g, c', cur, e0, _, _, h3, hm, _⟩
            · omega
            · cases e0; unfold maxLen at hm; omega
          have hvl : vs.length = 3 := by have := hSr.1; omega
          obtain ⟨a1, c1, hv1, hf1⟩ := hAl (vs[i]'(by omega)) (List.getElem_mem _)
          have k1 : wr.cell? ⟨gS, i, none⟩ = some (.slice a1 (dig 1).length c1) := (hSr.cellAt i (by omega)).trans (by rw [List.getElem?_eq_getElem (by omega), hv1])
          have FU := Lib.hid (FromUint_any 10 (by omega) (by omega) wr)
          have HF1 := Lib.hid hf1
          have HSU1 := Lib.hid hSu
          obtain ⟨n1, hn1⟩ : ∃ n, n = (dig 1).length := ⟨_, rfl⟩
          have HN1 := Lib.hid hn1
          rw [← hn1] at k1
          clear hSr hAl hSu hv1 hf1 hn1 hbw
          obtain ⟨hcS1, hcS2⟩ := hcS
          go_upto_region 11 with fail
          clear k1
          go_wp2_with fail
          refine FU.out.mono ?_; rintro e w10 ⟨a2, c2, rfl, f2, b10⟩
          have sm10 : Sm 10 1 := sm_small (by omega)
          have ML := Lib.hid (Mul_num (Num.of_fr f2 (show Sm (Int.toNat 10) 1 from sm10)) (by have := Num.of_fr (HF1.out.below b10) (sm_small (show 1 ≤ 4294967295 by omega)); rw [← HN1.out] at this; exact this))
          have HB10 := Lib.hid b10
          clear f2 b10 FU
          go_wp2_with fail
          refine ML.out.mono ?_; rintro e w11 ⟨a3, c3, rfl, f3, b11⟩
          have HB11 : Hid (Below wr.heap.size wr w11) := HB10.out.trans (b11.mono HB10.out.size)
          have DV := Lib.hid (Divide_numD (Num.of_fr f3 (show Sm (Int.toNat 10 * 1) 1 from sm10)) (by have := Num.of_fr (HSU1.out.below HB11.out) (sm_small (show 3 ≤ 4294967295 by omega)); rw [← HSN.out] at this; exact this) (show 0 < 3 by omega) (show Int.toNat 10 * 1 / 3 = 3 by decide) (show Int.toNat 10 * 1 % 3 = 1 by decide))
          clear f3 b11 ML HB10
          go_wp2_with fail
          refine DV.out.mono ?_; rintro e w12 ⟨a4, c4, a5, c5, rfl, f4, f5, b12⟩
          have HB12 : Hid (Below wr.heap.size wr w12) := HB11.out.trans (b12.mono HB11.out.size)
          have UI := Lib.hid (Uint_numS (Num.of_fr f4 (sm_small (show 3 ≤ 4294967295 by omega))) (show 3 < 18446744073709551616 by omega))
          have HF5 : Hid (Fr 0 w12 a5 c5 (dig 1)) := f5.mono (Nat.zero_le _)
          clear f4 f5 b12 DV HB11
          go_wp2_with fail
          refine UI.out.mono ?_; rintro e w13 ⟨rfl, rfl⟩
          clear UI
          have hC12 := row_below hC.out HB12.out
          have hM12 := row_below hM.out HB12.out
          have hR12 := hR.out.below HB12.out
          have hX12 := carry hX.out HB12.out
          have x0 : w12.cell? ⟨gX, 0, none⟩ = some (.slice (some ⟨gM, 0, none⟩) 3 3) := by simp [World.cell?, hX12]
          obtain ⟨u0, hu0⟩ : ∃ v, w12.cell? ⟨gC, i, none⟩ = some v := ⟨_, (hC12.cellAt i (by omega)).trans (List.getElem?_eq_getElem (by rw [cl_len]; omega))⟩
          have uf := hC12.frozenAt i
          have hrl3 : rl.length = 3 := by have := hM12.1; omega
          obtain ⟨u1, hu1⟩ : ∃ v, w12.cell? ⟨gM, i, none⟩ = some v := ⟨_, (hM12.cellAt i (by omega)).trans (List.getElem?_eq_getElem (by omega))⟩
          have mf := hM12.frozenAt i
          have hCM : gC ≠ gM := by have := HORD.out; omega
          go_upto_region 14 with fail
          have XC : ∀ {D : Nat → Bool} {w1 : World}, WX gC gM i a5 (dig 1).length c5 w12.drew D w1 → w1.cell? ⟨gX, 0, none⟩ = some (.slice (some ⟨gM, 0, none⟩) 3 3) := fun {D} {w1} h => by
            have hXC : gC ≠ gX := by have := HORD.out; omega
            have hXM : gM ≠ gX := by have := HORD.out; omega
            have x0' : w12.drew.cell? ⟨gX, 0, none⟩ = some (.slice (some ⟨gM, 0, none⟩) 3 3) := x0
            have x1 : (w12.drew.setCell ⟨gC, i, none⟩ (.int .i64 3)).cell? ⟨gX, 0, none⟩ = some (.slice (some ⟨gM, 0, none⟩) 3 3) := (World.cell?_setCell_other _ _ _ _ (by intro e; simp only [Addr.mk.injEq] at e; exact hXC e.1)).trans x0'
            have x2 : ((w12.drew.setCell ⟨gC, i, none⟩ (.int .i64 3)).setCell ⟨gM, i, none⟩ (.slice a5 (dig 1).length c5)).cell? ⟨gX, 0, none⟩ = some (.slice (some ⟨gM, 0, none⟩) 3 3) := (World.cell?_setCell_other _ _ _ _ (by intro e; simp only [Addr.mk.injEq] at e; exact hXM e.1)).trans x1
            unfold WX at h
            rw [h]
            cases D 10 <;> cases D 8 <;> assumption
          refine wp_region_any (by kernel_rfl) ?_
          refine region_ssa [69, 70, 71, 72, 73, 74, 75, 76, 77] (fun _ => True) (fun _ _ => True) (RP (AlR gC gM i a5 c5)) (fun D _ w1 => WX gC gM i a5 (dig 1).length c5 w12.drew D w1) (fun f => rfl) (by kernel_rfl) (by kernel_rfl) ?_ ?_ ?_ ?_ (AllF.below (n := 11) ?_) ?_
          · trivial
          · intro f; exact rfl
          · intro i v w1 w2 _ h _; exact h
          · intro _ _ _ _; trivial
          · refine AllF.step (m := 10) (j := 1) rfl ?_ ?_
            · intro D f w1 hD hB hR hp hcl hX
              have HX := Lib.hid hX
              have HC := Lib.hid hcl
              have HB := Lib.hid hB
              have HD := Lib.hid hD
              clear hX hcl hB hD hR hp
              refine wpOp_step rfl (fun K hK => ?_)
              simp only [putAll, Act.put, List.setIfInBounds_toArray, List.set_cons_succ, List.set_cons_zero]
              go_simp
              exact hK _ _ ⟨.slice (some ⟨gC, 0, none⟩) 3 3, (by show _ = Act.put _ (some 69) _; simp only [putAll, Act.put, List.setIfInBounds_toArray, List.set_cons_succ, List.set_cons_zero, *]; all_goals rfl), rfl, trivial, HX.out⟩
            refine AllF.step (m := 9) (j := 2) rfl ?_ ?_
            · intro D f w1 hD hB hR hp hcl hX
              have HX := Lib.hid hX
              have HC := Lib.hid hcl
              have HB := Lib.hid hB
              have HD := Lib.hid hD
              clear hX hcl hB hD hR hp
              refine wpOp_step rfl (fun K hK => ?_)
              simp only [putAll, Act.put, List.setIfInBounds_toArray, List.set_cons_succ, List.set_cons_zero]
              go_simp
              exact hK _ _ ⟨.int .i64 (i : Int), (by show _ = Act.put _ (some 70) _; simp only [putAll, Act.put, List.setIfInBounds_toArray, List.set_cons_succ, List.set_cons_zero, *]; all_goals rfl), rfl, trivial, HX.out⟩
            refine AllF.step (m := 8) (j := 3) rfl ?_ ?_
            · intro D f w1 hD hB hR hp hcl hX
              have hx0 : w1.cell? ⟨gX, 0, none⟩ = some (.slice (some ⟨gM, 0, none⟩) 3 3) := XC hX
              have HX := Lib.hid hX
              have HC := Lib.hid hcl
              have HB := Lib.hid hB
              have HD := Lib.hid hD
              clear hX hcl hB hD hR hp
              refine wpOp_step rfl (fun K hK => ?_)
              simp only [putAll, Act.put, List.setIfInBounds_toArray, List.set_cons_succ, List.set_cons_zero]
              go_simp
              exact hK _ _ ⟨.slice (some ⟨gM, 0, none⟩) 3 3, (by show _ = Act.put _ (some 71) _; simp only [putAll, Act.put, List.setIfInBounds_toArray, List.set_cons_succ, List.set_cons_zero, *]; all_goals rfl), rfl, trivial, HX.out⟩
            refine AllF.step (m := 7) (j := 4) rfl ?_ ?_
            · intro D f w1 hD hB hR hp hcl hX
              have HX := Lib.hid hX
              have HC := Lib.hid hcl
              have HB := Lib.hid hB
              have HD := Lib.hid hD
              clear hX hcl hB hD hR hp
              refine wpOp_step rfl (fun K hK => ?_)
              simp only [putAll, Act.put, List.setIfInBounds_toArray, List.set_cons_succ, List.set_cons_zero]
              go_simp
              exact hK _ _ ⟨.int .i64 (i : Int), (by show _ = Act.put _ (some 72) _; simp only [putAll, Act.put, List.setIfInBounds_toArray, List.set_cons_succ, List.set_cons_zero, *]; all_goals rfl), rfl, trivial, HX.out⟩
            refine AllF.step (m := 6) (j := 5) rfl ?_ ?_
            · intro D f w1 hD hB hR hp hcl hX
              have HX := Lib.hid hX
              have HC := Lib.hid hcl
              have HB := Lib.hid hB
              have HD := Lib.hid hD
              clear hX hcl hB hD hR hp
              refine wpOp_step rfl (fun K hK => ?_)
              simp only [putAll, Act.put, List.setIfInBounds_toArray, List.set_cons_succ, List.set_cons_zero]
              go_simp
              exact hK _ _ ⟨.int .u64 3, (by show _ = Act.put _ (some 73) _; simp only [putAll, Act.put, List.setIfInBounds_toArray, List.set_cons_succ, List.set_cons_zero, *]; all_goals rfl), rfl, trivial, HX.out⟩
            refine AllF.step (m := 5) (j := 6) rfl ?_ ?_
            · intro D f w1 hD hB hR hp hcl hX
              have e4 : f 73 = .int .u64 3 := (hpAt hp 4 (by kernel_rfl)).2
              have HX := Lib.hid hX
              have HC := Lib.hid hcl
              have HB := Lib.hid hB
              have HD := Lib.hid hD
              clear hX hcl hB hD hR hp
              refine wpOp_step rfl (fun K hK => ?_)
              simp only [putAll, Act.put, List.setIfInBounds_toArray, List.set_cons_succ, List.set_cons_zero]
              go_simp
              exact hK _ _ ⟨.int .i64 3, (by show _ = Act.put _ (some 74) _; simp only [putAll, Act.put, List.setIfInBounds_toArray, List.set_cons_succ, List.set_cons_zero, *]; all_goals rfl), rfl, trivial, HX.out⟩
            refine AllF.step (m := 4) (j := 7) rfl ?_ ?_
            · intro D f w1 hD hB hR hp hcl hX
              have HX := Lib.hid hX
              have HC := Lib.hid hcl
              have HB := Lib.hid hB
              have HD := Lib.hid hD
              clear hX hcl hB hD hR hp
              refine wpOp_step rfl (fun K hK => ?_)
              simp only [putAll, Act.put, List.setIfInBounds_toArray, List.set_cons_succ, List.set_cons_zero]
              go_simp
              exact hK _ _ ⟨.slice a5 (dig 1).length c5, (by show _ = Act.put _ (some 75) _; simp only [putAll, Act.put, List.setIfInBounds_toArray, List.set_cons_succ, List.set_cons_zero, *]; all_goals rfl), rfl, trivial, HX.out⟩
            refine AllF.step (m := 3) (j := 8) rfl ?_ ?_
            · intro D f w1 hD hB hR hp hcl hX
              have e0 : f 69 = .slice (some ⟨gC, 0, none⟩) 3 3 := (hpAt hp 0 (by kernel_rfl)).2
              have e1 : f 70 = .int .i64 (i : Int) := (hpAt hp 1 (by kernel_rfl)).2
              have HX := Lib.hid hX
              have HC := Lib.hid hcl
              have HB := Lib.hid hB
              have HD := Lib.hid hD
              clear hX hcl hB hD hR hp
              refine wpOp_step rfl (fun K hK => ?_)
              simp only [putAll, Act.put, List.setIfInBounds_toArray, List.set_cons_succ, List.set_cons_zero]
              go_simp
              exact hK _ _ ⟨.pointer (some ⟨gC, i, none⟩), (by show _ = Act.put _ (some 76) _; simp only [putAll, Act.put, List.setIfInBounds_toArray, List.set_cons_succ, List.set_cons_zero, *]; all_goals rfl), rfl, trivial, HX.out⟩
            refine AllF.step (m := 2) (j := 9) rfl ?_ ?_
            · intro D f w1 hD hB hR hp hcl hX
              have e7 : f 76 = .pointer (some ⟨gC, i, none⟩) := (hpAt hp 7 (by kernel_rfl)).2
              have e5 : f 74 = .int .i64 3 := (hpAt hp 5 (by kernel_rfl)).2
              have h10 : D 10 = false := noF (hcl 10) (by kernel_rfl) hD
              have hw : w1 = w12.drew := by have h := hX; unfold WX at h; rw [h10, hD] at h; exact h
              subst hw
              have hu0' : w12.drew.cell? ⟨gC, i, none⟩ = some u0 := hu0
              have uf' : w12.drew.frozen? ⟨gC, i, none⟩ = false := uf
              have HX := Lib.hid hX
              have HC := Lib.hid hcl
              have HB := Lib.hid hB
              have HD := Lib.hid hD
              clear hX hcl hB hD hR hp
              refine wpOp_step rfl (fun K hK => ?_)
              simp only [putAll, Act.put, List.setIfInBounds_toArray, List.set_cons_succ, List.set_cons_zero]
              go_simp
              exact hK _ _ ⟨undef, (by show _ = Act.put _ (none) _; simp only [putAll, Act.put, List.setIfInBounds_toArray, List.set_cons_succ, List.set_cons_zero, *]; all_goals rfl), trivial, trivial, WX.one h10⟩
            refine AllF.step (m := 1) (j := 10) rfl ?_ ?_
            · intro D f w1 hD hB hR hp hcl hX
              have e2 : f 71 = .slice (some ⟨gM, 0, none⟩) 3 3 := (hpAt hp 2 (by kernel_rfl)).2
              have e3 : f 72 = .int .i64 (i : Int) := (hpAt hp 3 (by kernel_rfl)).2
              have HX := Lib.hid hX
              have HC := Lib.hid hcl
              have HB := Lib.hid hB
              have HD := Lib.hid hD
              clear hX hcl hB hD hR hp
              refine wpOp_step rfl (fun K hK => ?_)
              simp only [putAll, Act.put, List.setIfInBounds_toArray, List.set_cons_succ, List.set_cons_zero]
              go_simp
              exact hK _ _ ⟨.pointer (some ⟨gM, i, none⟩), (by show _ = Act.put _ (some 77) _; simp only [putAll, Act.put, List.setIfInBounds_toArray, List.set_cons_succ, List.set_cons_zero, *]; all_goals rfl), rfl, trivial, HX.out⟩
            refine AllF.step (m := 0) (j := 11) rfl ?_ ?_
            · intro D f w1 hD hB hR hp hcl hX
              have e9 : f 77 = .pointer (some ⟨gM, i, none⟩) := (hpAt hp 9 (by kernel_rfl)).2
              have e6 : f 75 = .slice a5 (dig 1).length c5 := (hpAt hp 6 (by kernel_rfl)).2
              have d8 : D 8 = true := (hpAt hp 8 (by kernel_rfl)).1
              have hw : w1 = w12.drew.setCell ⟨gC, i, none⟩ (.int .i64 3) := by have h := hX; unfold WX at h; rw [hD, d8] at h; exact h
              subst hw
              have hu1' : (w12.drew.setCell ⟨gC, i, none⟩ (.int .i64 3)).cell? ⟨gM, i, none⟩ = some u1 := (World.cell?_setCell_other _ _ _ _ (by intro e; simp only [Addr.mk.injEq] at e; exact hCM e.1)).trans hu1
              have mf' : (w12.drew.setCell ⟨gC, i, none⟩ (.int .i64 3)).frozen? ⟨gM, i, none⟩ = false := by rw [World.frozen?_setCell]; exact mf
              have HX := Lib.hid hX
              have HC := Lib.hid hcl
              have HB := Lib.hid hB
              have HD := Lib.hid hD
              clear hX hcl hB hD hR hp
              refine wpOp_step rfl (fun K hK => ?_)
              simp only [putAll, Act.put, List.setIfInBounds_toArray, List.set_cons_succ, List.set_cons_zero]
              go_simp
              exact hK _ _ ⟨undef, (by show _ = Act.put _ (none) _; simp only [putAll, Act.put, List.setIfInBounds_toArray, List.set_cons_succ, List.set_cons_zero, *]; all_goals rfl), trivial, trivial, rfl⟩
            exact trivial
          · intro D f w14 hD hB hR hX'
            have hw : w14 = (w12.drew.setCell ⟨gC, i, none⟩ (.int .i64 3)).setCell ⟨gM, i, none⟩ (.slice a5 (dig 1).length c5) := by
              have h := hX'
              unfold WX at h
              rw [hD 10 (by decide)] at h
              exact h
            clear hB hR hX' hD XC
            have hCd : w12.drew.ownsRow gC 3 1 (.slice (some ⟨gC, 0, none⟩) 3 3) 3 (cl i) := hC12
            have hMd : w12.drew.ownsRow gM 31 1 (.slice (some ⟨gM, 0, none⟩) 3 3) 3 rl := hM12
            obtain ⟨hs1, hg1⟩ := hCd.stored i (.int .i64 3)
            rw [cl_set i hlt] at hs1
            have hM1 := hMd.kept (gbs w12.drew gC i (.int .i64 3)) (.inr (by simp [Value.ownBlock]; omega))
            obtain ⟨hs2, hg2⟩ := hM1.stored i (.slice a5 (dig 1).length c5)
            have hC2 := hs1.kept (gbs _ gM i (.slice a5 (dig 1).length c5)) (.inr (by simp [Value.ownBlock]; omega))
            obtain ⟨curC, hbC⟩ := row_blk hCd
            obtain ⟨curM, hbM⟩ := row_blk hM1
            have hF5 : Fr 0 w12.drew a5 c5 (dig 1) := HF5.out
            have hR1 : RemL (w12.drew.setCell ⟨gC, i, none⟩ (.int .i64 3)) gM i := (show RemL w12.drew gM i from hR12).setne hbC (by decide) hCM
            have hcz : 3 ≤ curM.size := by
              rcases hM1.2 with ⟨e0, _⟩ | ⟨g', cap', cur', e0, _, hg', h3, _, hsz, _⟩
              · cases e0
              · cases e0
                rw [hbM] at hg'
                cases hg'
                omega
            have hR2 : RemL ((w12.drew.setCell ⟨gC, i, none⟩ (.int .i64 3)).setCell ⟨gM, i, none⟩ (.slice a5 (dig 1).length c5)) gM (i + 1) := hR1.put hbM (by omega) (hF5.setne hbC (by decide))
            have hX2 : ((w12.drew.setCell ⟨gC, i, none⟩ (.int .i64 3)).setCell ⟨gM, i, none⟩ (.slice a5 (dig 1).length c5)).heap[gX]? = some (.cells #[.slice (some ⟨gM, 0, none⟩) 3 3] 53 (0, 0)) := by
              rw [Below.heap_setCell _ _ _ _ (by show gX ≠ gM; have := HORD.out; omega), Below.heap_setCell _ _ _ _ (by show gX ≠ gC; have := HORD.out; omega)]
              exact hX12
            have hB12 : Below G w5 w12 := hb.out.trans (HB12.out.mono (by rw [HG.out]; exact (by have := hb.out.size; exact this)))
            have hB2 : Below G w5 ((w12.drew.setCell ⟨gC, i, none⟩ (.int .i64 3)).setCell ⟨gM, i, none⟩ (.slice a5 (dig 1).length c5)) := ((hB12.drew).setCell (by show G ≤ gC; exact HORD.out.1) _).setCell (by show G ≤ gM; have := HORD.out; omega) _
            rw [← hw] at hs2 hC2 hR2 hX2 hB2
            have HC14 := Lib.hid hC2
            have HM14 := Lib.hid hs2
            have HR14 := Lib.hid hR2
            have HX14 := Lib.hid hX2
            have HB14 := Lib.hid hB2
            have HL14 : Hid (l - 3 = 10 - 3 * ((i + 1 : Nat) : Int)) := by have := hl.out; unfold Hid; omega
            have hlw : IntKind.i64.wrap (l - 3) = l - 3 := IntWalk.i64_in _ (by have := hl.out; omega)
            clear hw hCd hMd hs1 hg1 hM1 hs2 hg2 hC2 hbC hbM hF5 hR1 hcz hR2 hX2 hB12 hB2 hC12 hM12 hR12 hX12 x0 hu0 uf hu1 mf
            simp only [putAll, Act.put, List.setIfInBounds_toArray, List.set_cons_succ, List.set_cons_zero]
            go_wp2_with fail
            go_roundw
            case rel => exact ⟨i + 1, l - 3, _, by omega, by go_num, rfl, HL14, HC14, HM14, HR14, HX14, HB14⟩
            case measure => simp [intOf]; omega
        · obtain rfl : i = 3 := by omega
          have hlt2 : ¬ ((3 : Nat) : Int) < 3 := by omega
          have hl1 : l = 1 := by have := hl.out; omega
          subst hl1
          have hrem : Rem wr gX gM 3 := ⟨by have := hX.out; simp [World.cell?, this], hR.out⟩
          have RK := Lib.hid (ranked_three gX gM 3 (by omega) wr hrem)
          have hCl := (hC.out.lt gC rfl).2
          have hBw : Hid (Below w.heap.size w wr) := HB5.out.trans (hb.out.mono (by rw [HG.out]; exact HB5.out.size))
          have hGw : w.heap.size ≤ G := by rw [HG.out]; exact HB5.out.size
          clear hrem hl
          go_wp2_with fail
          refine RK.out.mono ?_; rintro e w15 ⟨gU, rfl, hU, bU⟩
          have hUl := hU.lt gU rfl
          have hUC : gU ≠ gC := by omega
          have HC15 := Lib.hid (row_below hC.out bU)
          obtain ⟨BU, hBU⟩ : ∃ b, b = wr.heap.size := ⟨_, rfl⟩
          rw [← hBU] at hU
          have HU15 := Lib.hid hU
          clear hBU
          have HB15 : Hid (Below w.heap.size w w15) := hBw.out.trans (bU.mono hBw.out.size)
          clear hU bU hUl RK
          go_wp2_with fail
          go_loopw [91] (fun s91 wq => (s91 = .int .i64 0 ∧ Hid (wq.ownsRow gC 3 1 (.slice (some ⟨gC, 0, none⟩) 3 3) 3 (cl 3)) ∧ Hid (wq.ownsRow BU 3 1 (.slice (some ⟨gU, 0, none⟩) 3 3) 3 (ints3 0 1 2)) ∧ Hid (Below w.heap.size w wq)) ∨ (s91 = .int .i64 1 ∧ Hid (wq.ownsRow gC 3 1 (.slice (some ⟨gC, 0, none⟩) 3 3) 3 (ints3 4 3 3)) ∧ Hid (Below w.heap.size w wq))) (fun s91 _ => 1 - (intOf s91).toNat)
          case atStart => exact .inl ⟨rfl, HC15, HU15, HB15⟩
          case round =>
            rcases hrel with ⟨rfl, hC9, hU9, hB9⟩ | ⟨rfl, hC9, hB9⟩
            · have v0 : wr.cell? ⟨gU, 0, none⟩ = some (.int .i64 0) := (hU9.out.cellAt 0 (by omega)).trans rfl
              have c0 : wr.cell? ⟨gC, 0, none⟩ = some (.int .i64 3) := (hC9.out.cellAt 0 (by omega)).trans rfl
              have f0 := hC9.out.frozenAt 0
              obtain ⟨hs, hg⟩ := hC9.out.stored 0 (.int .i64 4)
              have HS : Hid ((wr.setCell ⟨gC, 0, none⟩ (.int .i64 4)).ownsRow gC 3 1 (.slice (some ⟨gC, 0, none⟩) 3 3) 3 (ints3 4 3 3)) := hs
              have HBS : Hid (Below w.heap.size w (wr.setCell ⟨gC, 0, none⟩ (.int .i64 4))) := hB9.out.setCell (by show w.heap.size ≤ gC; have := HORD.out; omega) _
              clear hs hg hC9 hU9 hB9
              go_wp2_with fail
              go_roundw
              case rel => exact .inr ⟨rfl, HS, HBS⟩
              case measure => simp [intOf]
            · go_wp2_with fail
              refine bodyPost_ret (v := .tuple #[.slice (some ⟨gC, 0, none⟩) 3 3, .int .i64 0]) (by simp [results, Try.results9, go_sem]) rfl ?_
              exact ⟨some ⟨gC, 0, none⟩, 3, rfl, row_lift hC9.out (by have := HORD.out; omega), hB9.out⟩
end Go.Proofs.Ytcnghhlchjcdhaa
/- Layer 10: the sanity check: ten things for three. -/
namespace Go.Proofs.Ytcnghhlchjcdhaa
open Go.RowKit Go.Sort

theorem cellin {w : World} {b j : Nat} {cs : Array Value} {t : TypeId} {v : Value} (h : w.heap[b]? = some (.cells cs t (0, 0))) (hj : cs[j]? = some v) : w.cell? ⟨b, j, none⟩ = some v := by
  simp only [World.cell?, h]
  simp [hj]
theorem rdz_row {w : World} {base n c : Nat} {a : Option Addr} {t : TypeId} {zs : List Int} (_hn : zs.length = n) (h : w.ownsRow base t 1 (.slice a n c) n (C6.intz zs)) : C6.RdZ w a c zs := by
  obtain ⟨ao', cp', e', r', _⟩ := C6.RdV.of_row h
  injection e' with e1 _ e3
  rw [e1, e3]; exact r'
theorem rdz_lit {w : World} {g : Nat} {zs : List Int} {t : TypeId} (h : w.heap[g]? = some (.cells (C6.intz zs).toArray t (0, 0))) (hl : zs.length ≤ 1000) : C6.RdZ w (some ⟨g, 0, none⟩) zs.length zs :=
  ⟨by rw [C6.intz_length]; exact Nat.le_refl _, by omega, .inr ⟨g, 0, rfl, fun i v hi => by rw [Nat.zero_add]; exact cellin h (by simpa using hi)⟩⟩

set_option maxHeartbeats 8000000 in
set_option maxRecDepth 100000 in
theorem awake10 (w : World) : Calls Try.prog 12 #[] w fun e w' => e = .returned (.bool true) ∧ Below w.heap.size w w' := by
  have ON := Lib.hid (rOne_q w)
  go_enter Try.func12, Try.ntmps12
  go_wp2_with fail
  refine ON.out.mono ?_; rintro e w2 ⟨s2, a2, n2, c2, o2, m2, d2, rfl, cq2, b2⟩
  obtain ⟨W3, hW3⟩ : ∃ W, W = w2.alloc (.cells #[.bool s2, .slice a2 n2 c2, .slice o2 m2 d2] 33) := ⟨_, rfl⟩
  obtain ⟨W4, hW4⟩ : ∃ W, W = W3.alloc (.cells #[.bool s2, .slice a2 n2 c2, .slice o2 m2 d2, .bool s2, .slice a2 n2 c2, .slice o2 m2 d2, .bool s2, .slice a2 n2 c2, .slice o2 m2 d2] 33) := ⟨_, rfl⟩
  obtain ⟨g3, hg3⟩ : ∃ g, g = w2.heap.size := ⟨_, rfl⟩
  obtain ⟨g4, hg4⟩ : ∃ g, g = w2.heap.size + 1 := ⟨_, rfl⟩
  have b3 : Below w2.heap.size w2 W3 := by rw [hW3]; exact below_new _ _
  have b4 : Below W3.heap.size W3 W4 := by rw [hW4]; exact below_new _ _
  have s3 : W3.heap.size = w2.heap.size + 1 := by rw [hW3]; exact World.size_alloc _ _
  have x3 : W3.heap[g3]? = some (.cells #[.bool s2, .slice a2 n2 c2, .slice o2 m2 d2] 33 (0, 0)) := by rw [hW3, hg3]; exact heap_alloc_new _ _
  have x4 : W4.heap[g4]? = some (.cells #[.bool s2, .slice a2 n2 c2, .slice o2 m2 d2, .bool s2, .slice a2 n2 c2, .slice o2 m2 d2, .bool s2, .slice a2 n2 c2, .slice o2 m2 d2] 33 (0, 0)) := by rw [hW4, hg4, ← s3]; exact heap_alloc_new _ _
  have hone : Ones W4 (some ⟨g4, 0, none⟩) 3 [⟨s2, a2, n2, c2, o2, m2, d2⟩, ⟨s2, a2, n2, c2, o2, m2, d2⟩, ⟨s2, a2, n2, c2, o2, m2, d2⟩] := by
    refine ⟨⟨by simp, by omega, .inr ⟨g4, 0, rfl, fun i hi => ?_⟩⟩, rfl, fun u hu => ?_⟩
    · have : i = 0 ∨ i = 1 ∨ i = 2 := by simp at hi; omega
      rcases this with rfl | rfl | rfl <;> exact ⟨cellin x4 rfl, cellin x4 rfl, cellin x4 rfl⟩
    · have hu' : u = ⟨s2, a2, n2, c2, o2, m2, d2⟩ := by simpa using hu
      rw [hu']
      exact ((cq2.below b3).below b4).rq
  have AL := Lib.hid (Allocate_ten _ 3 _ W4 hone)
  have HB4 : Hid (Below w.heap.size w W4) := b2.trans ((b3.trans (b4.mono b3.size)).mono b2.size)
  clear cq2 b2 b3 b4 x4 hone ON
  go_wp2_with fail
  rw [← hW3, ← hW4]
  try rw [← hg4]
  try rw [← hg3]
  clear hW3 hW4 hg3 hg4 s3 x3
  refine AL.out.mono ?_; rintro e w5 ⟨a5, c5, rfl, ho5, b5⟩
  obtain ⟨W6, hW6⟩ : ∃ W, W = w5.alloc (.cells #[.int .i64 4, .int .i64 3, .int .i64 3] 3) := ⟨_, rfl⟩
  obtain ⟨g6, hg6⟩ : ∃ g, g = w5.heap.size := ⟨_, rfl⟩
  have b6 : Below w5.heap.size w5 W6 := by rw [hW6]; exact below_new _ _
  have x6 : W6.heap[g6]? = some (.cells #[.int .i64 4, .int .i64 3, .int .i64 3] 3 (0, 0)) := by rw [hW6, hg6]; exact heap_alloc_new _ _
  have r5 : C6.RdZ W6 a5 c5 [4, 3, 3] := rdz_row (zs := [4, 3, 3]) rfl (row_below ho5 b6)
  have r6 : C6.RdZ W6 (some ⟨g6, 0, none⟩) 3 [4, 3, 3] := rdz_lit (zs := [4, 3, 3]) x6 (by decide)
  have SI := Lib.hid (S10.SameInts_v a5 (some ⟨g6, 0, none⟩) c5 3 [4, 3, 3] [4, 3, 3] W6 r5 r6)
  have HB6 : Hid (Below w.heap.size w W6) := HB4.out.trans ((b5.trans (b6.mono b5.size)).mono HB4.out.size)
  clear ho5 b5 b6 x6 r5 r6 AL
  go_wp2_with fail
  rw [← hW6]
  try rw [← hg6]
  clear hW6 hg6
  refine SI.out.mono ?_; rintro e w7 ⟨rfl, b7⟩
  have HB7 : Hid (Below w.heap.size w w7) := HB6.out.trans (b7.mono HB6.out.size)
  clear b7
  go_wp2_with fail
  go_ret
  exact ⟨rfl, HB7.out⟩
end Go.Proofs.Ytcnghhlchjcdhaa
