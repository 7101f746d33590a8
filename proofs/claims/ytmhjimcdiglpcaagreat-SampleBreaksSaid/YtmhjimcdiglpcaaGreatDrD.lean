import Derived.Test.YtmhjimcdiglpcaaGreatDrC
import Derived.Test.YtmhjimcdiglpcaaGreatNums
import Derived.Test.YtmhjimcdiglpcaaGreatPairs
/- Lists of numbers held against each other; at most twelve raw sizes. -/
namespace Go.Proofs.YtmhjimcdiglpcaaGreat.Dr
open Go.RowKit Go.Sort C6

theorem Inc.at {w : World} {N : Nat} {rs : List RV} {Q : Nat → Rat} (h : Inc w N rs (fun u => some (Q u))) {i : Nat} (hi : i < N) : CQ 0 w (rs.getD i RV.nil).s (rs.getD i RV.nil).ao (rs.getD i RV.nil).n (rs.getD i RV.nil).ca (rs.getD i RV.nil).bo (rs.getD i RV.nil).m (rs.getD i RV.nil).cb (Q i) 2 := h.2 i hi _ rfl
theorem RdN.below {w w' : World} {a : Option Addr} {c N : Nat} {Q : Nat → Rat} (h : RdN w a c N Q) (b : Below w.heap.size w w') : RdN w' a c N Q := by
  obtain ⟨rs, h1, h2, h3⟩ := h
  exact ⟨rs, h1, h2.below b, h3.below b⟩
set_option maxHeartbeats 8000000 in
set_option maxRecDepth 100000 in
theorem SameList_v (N : Nat) (Q : Nat → Rat) (ao bo : Option Addr) (ca cb : Nat) (w : World) (h1 : RdN w ao ca N Q) (h2 : RdN w bo cb N Q) :
    Calls Tryz.prog 17 #[.slice ao N ca, .slice bo N cb] w fun e w' => e = .returned (.bool true) ∧ Below w.heap.size w w' := by
  obtain ⟨rs, l1, r1, c1⟩ := h1
  obtain ⟨ps, l2, r2, c2⟩ := h2
  have a1 := r1.1
  have a2 := r1.2.1
  have a3 := r2.1
  have a4 := r2.2.1
  rw [l1] at a1
  rw [l2] at a3
  have H1 := Lib.hid r1
  have H2 := Lib.hid r2
  have C1 := Lib.hid c1
  have C2 := Lib.hid c2
  have L1 := Lib.hid l1
  have L2 := Lib.hid l2
  clear r1 r2 c1 c2 l1 l2
  go_enter Tryz.func17, Tryz.ntmps17
  go_wp2_with fail
  go_loopw [13] (fun s13 wr => ∃ i : Nat, i ≤ N ∧ s13 = .int .i64 (i : Int) ∧ Hid (Below w.heap.size w wr)) (fun s13 _ => N - (intOf s13).toNat)
  case atStart => exact ⟨0, by omega, rfl, Below.refl _ _⟩
  case round =>
    obtain ⟨i, hiN, rfl, hbl⟩ := hrel
    by_cases hlt : i < N
    · have hlt2 : (i : Int) < (N : Int) := by omega
      obtain ⟨b, o, rfl, hat⟩ := H1.out.at (by rw [L1.out]; omega)
      obtain ⟨b2, o2, rfl, hat2⟩ := H2.out.at (by rw [L2.out]; omega)
      obtain ⟨r, hre⟩ : ∃ r, r = rs.getD i RV.nil := ⟨_, rfl⟩
      obtain ⟨p, hpe⟩ : ∃ r, r = ps.getD i RV.nil := ⟨_, rfl⟩
      have x1 := (hat i (by rw [L1.out]; exact hlt)).below hbl.out
      have x2 := (hat2 i (by rw [L2.out]; exact hlt)).below hbl.out
      have q1 := (C1.out.at hlt).below hbl.out
      have q2 := (C2.out.at hlt).below hbl.out
      rw [← hre] at x1 q1
      rw [← hpe] at x2 q2
      have K1 : Hid (∀ w', Below wr.heap.size wr w' → At3 w' b (o + i * 3) r) := fun w' hb => x1.below hb
      have K2 : Hid (∀ w', Below wr.heap.size wr w' → At3 w' b2 (o2 + i * 3) p) := fun w' hb => x2.below hb
      have SM : Hid (∀ w', Below wr.heap.size wr w' → Calls Tryz.prog 41 #[.agg #[.bool r.s, .slice r.ao r.n r.ca, .slice r.bo r.m r.cb], .agg #[.bool p.s, .slice p.ao p.n p.ca, .slice p.bo p.m p.cb]] w' fun e w2 => e = .returned (.bool true) ∧ Below w'.heap.size w' w2) := fun w' hb => Same_q (q1.below hb) (q2.below hb) rfl
      clear hre hpe x1 x2 q1 q2 hat hat2
      go_upto_region 6 with fail
      refine wp_region_held_drew (S := fun w' => Below wr.heap.size wr w') (by kernel_rfl) ((Below.refl _ _).drew) (fun hH => ?_)
      refine wpAnyH_take (i := 0) (v := (.slice (some ⟨b, o, none⟩) N ca)) rfl (by kernel_rfl) (by kernel_rfl) (by kernel_rfl) (fun _ _ _ h => h) (Or.inl ⟨by kernel_rfl, ?_⟩) hH ?_
      · intro w1 hB
        go_simp
      change wpAnyH _ _ _ _ _ _ _ (Act.put _ (some 16) _) _
      try simp only [Act.put, List.setIfInBounds_toArray, List.set_cons_zero, List.set_cons_succ]
      refine wpAnyH_take (i := 1) (v := (.int .i64 (i : Int))) rfl (by kernel_rfl) (by kernel_rfl) (by kernel_rfl) (fun _ _ _ h => h) (Or.inl ⟨by kernel_rfl, ?_⟩) hH ?_
      · intro w1 hB
        go_simp
      change wpAnyH _ _ _ _ _ _ _ (Act.put _ (some 17) _) _
      try simp only [Act.put, List.setIfInBounds_toArray, List.set_cons_zero, List.set_cons_succ]
      refine wpAnyH_take (i := 2) (v := (.pointer (some ⟨b, o + i * 3, none⟩))) rfl (by kernel_rfl) (by kernel_rfl) (by kernel_rfl) (fun _ _ _ h => h) (Or.inl ⟨by kernel_rfl, ?_⟩) hH ?_
      · intro w1 hB
        go_simp
      change wpAnyH _ _ _ _ _ _ _ (Act.put _ (some 18) _) _
      try simp only [Act.put, List.setIfInBounds_toArray, List.set_cons_zero, List.set_cons_succ]
      refine wpAnyH_take (i := 3) (v := (.agg #[.bool r.s, .slice r.ao r.n r.ca, .slice r.bo r.m r.cb])) rfl (by kernel_rfl) (by kernel_rfl) (by kernel_rfl) (fun _ _ _ h => h) (Or.inl ⟨by kernel_rfl, ?_⟩) hH ?_
      · intro w1 hB
        obtain ⟨k0, k1, k2⟩ := K1.out w1 hB
        obtain ⟨l0, l1, l2⟩ := K2.out w1 hB
        go_simp
      change wpAnyH _ _ _ _ _ _ _ (Act.put _ (some 19) _) _
      try simp only [Act.put, List.setIfInBounds_toArray, List.set_cons_zero, List.set_cons_succ]
      refine wpAnyH_take (i := 4) (v := (.slice (some ⟨b2, o2, none⟩) N cb)) rfl (by kernel_rfl) (by kernel_rfl) (by kernel_rfl) (fun _ _ _ h => h) (Or.inl ⟨by kernel_rfl, ?_⟩) hH ?_
      · intro w1 hB
        go_simp
      change wpAnyH _ _ _ _ _ _ _ (Act.put _ (some 20) _) _
      try simp only [Act.put, List.setIfInBounds_toArray, List.set_cons_zero, List.set_cons_succ]
      refine wpAnyH_take (i := 5) (v := (.int .i64 (i : Int))) rfl (by kernel_rfl) (by kernel_rfl) (by kernel_rfl) (fun _ _ _ h => h) (Or.inl ⟨by kernel_rfl, ?_⟩) hH ?_
      · intro w1 hB
        go_simp
      change wpAnyH _ _ _ _ _ _ _ (Act.put _ (some 21) _) _
      try simp only [Act.put, List.setIfInBounds_toArray, List.set_cons_zero, List.set_cons_succ]
      refine wpAnyH_take (i := 6) (v := (.pointer (some ⟨b2, o2 + i * 3, none⟩))) rfl (by kernel_rfl) (by kernel_rfl) (by kernel_rfl) (fun _ _ _ h => h) (Or.inl ⟨by kernel_rfl, ?_⟩) hH ?_
      · intro w1 hB
        go_simp
      change wpAnyH _ _ _ _ _ _ _ (Act.put _ (some 22) _) _
      try simp only [Act.put, List.setIfInBounds_toArray, List.set_cons_zero, List.set_cons_succ]
      refine wpAnyH_take (i := 7) (v := (.agg #[.bool p.s, .slice p.ao p.n p.ca, .slice p.bo p.m p.cb])) rfl (by kernel_rfl) (by kernel_rfl) (by kernel_rfl) (fun _ _ _ h => h) (Or.inl ⟨by kernel_rfl, ?_⟩) hH ?_
      · intro w1 hB
        obtain ⟨k0, k1, k2⟩ := K1.out w1 hB
        obtain ⟨l0, l1, l2⟩ := K2.out w1 hB
        go_simp
      change wpAnyH _ _ _ _ _ _ _ (Act.put _ (some 23) _) _
      try simp only [Act.put, List.setIfInBounds_toArray, List.set_cons_zero, List.set_cons_succ]
      refine wpAnyH_ready (rs := [8]) (by kernel_rfl) (by simp) ?_
      refine AllReadyH.cons rfl (fun K hK => ?_) AllReadyH.nil
      go_simp
      refine (SM.out _ hH).mono ?_
      rintro e V8 ⟨rfl, v8⟩
      try go_simp
      refine hK.out _ _ (keepB v8 hH (Nat.le_refl _)) (fun hH8 => ?_)
      clear hK K
      try simp only [Act.put, List.setIfInBounds_toArray, List.set_cons_zero, List.set_cons_succ]
      refine wpAnyH_take (i := 9) (v := (.bool false)) rfl (by kernel_rfl) (by kernel_rfl) (by kernel_rfl) (fun _ _ _ h => h) (Or.inl ⟨by kernel_rfl, ?_⟩) hH8 ?_
      · intro w1 hB
        go_simp
      change wpAnyH _ _ _ _ _ _ _ (Act.put _ (some 25) _) _
      try simp only [Act.put, List.setIfInBounds_toArray, List.set_cons_zero, List.set_cons_succ]
      refine wpAnyH_done (by kernel_rfl) ?_ _
      have BV : Below wr.heap.size wr _ := hH8
      have HB9 := Lib.hid (hbl.out.trans (BV.mono hbl.out.size))
      clear BV
      go_wp2_with fail
      go_roundw
      case rel => exact ⟨i + 1, by omega, by go_num, HB9⟩
      case measure => simp [intOf]; omega
    · obtain rfl : i = N := by omega
      have hlt2 : ¬ (i : Int) < (i : Int) := by omega
      go_wp2_with fail
      go_ret
      exact ⟨rfl, hbl.out⟩

set_option maxHeartbeats 4000000 in
theorem raw_d (xs : List Int) (ao : Option Addr) (cap : Nat) (w : World) (hr : RdZ w ao cap xs) :
    Calls Tryz.prog 14 #[.slice ao xs.length cap] w fun e w' => e = .returned (.slice ao (xs.take 12).length cap) ∧ w' = w := by
  have hl1 : xs.length ≤ cap := by have := hr.1; rwa [intz_length] at this
  have hl2 := hr.2.1
  have hlen : (xs.take 12).length = min xs.length 12 := by rw [List.length_take]; omega
  rw [hlen]
  obtain ⟨n, hn⟩ : ∃ n, n = xs.length := ⟨_, rfl⟩
  obtain ⟨k, hk⟩ : ∃ k, k = min n 12 := ⟨_, rfl⟩
  rw [← hn] at hl1 ⊢
  rw [← hk]
  have mm : min (n : Int) 12 = (k : Int) := by omega
  have k0 : (0 : Int) ≤ (k : Int) := by omega
  have k1 : (k : Int) ≤ (cap : Int) := by omega
  have k2 : k ≤ n := by omega
  clear hr hlen hn hk
  go_enter Tryz.func14, Tryz.ntmps14
  go_wp2_with fail
  go_ret
  exact ⟨rfl, rfl⟩
end Go.Proofs.YtmhjimcdiglpcaaGreat.Dr
/- Drawn regions by values, where a slot is read before the region writes it: what the slots hold at first is known. -/
namespace Go.Proofs.YtmhjimcdiglpcaaGreat
open Go.RowKit

section
variable {P : Program} {ops : Array Oper} {Q : Exit → Act → World → Prop} {md : Region.Mode}
theorem region_ssa2 (dsts : List Nat) (Bs : World → Prop) (E : World → World → Prop) (R : Nat → Value → World → Prop) (X : (Nat → Bool) → (Nat → Value) → World → Prop) {a : Act} {w0 : World} {F : (Nat → Value) → Act} (hF : ∀ f, putAll a dsts f = F f)
    (hb : backs md ops = true) (hd : apartDsts ops dsts = true) (hw : Bs w0) (hX : X (fun _ => false) (fun t => a.tmps.getD t undef) w0)
    (hst : ∀ i v w w', Bs w → R i v w → E w w' → R i v w') (hbs : ∀ w w', Bs w → E w w' → Bs w')
    (hstep : AllBelow (StepAt P md ops Q F Bs E R X) ops.size)
    (hdone : ∀ D f w, (∀ i, i < ops.size → D i = true) → Bs w → (∀ i, i < ops.size → R i (opval ops f i) w) → X D f w → Q .normal (F f) w) :
    wpAny P md ops Q ops.size (Array.replicate ops.size false) a w0 := by
  refine region_steps dsts (fun D f w => Bs w ∧ (∀ i, i < ops.size → D i = true → R i (opval ops f i) w) ∧ X D f w) hb ⟨hw, (fun _ _ h => by cases h), hX⟩ ?_ ?_
  · rintro i hi D f w hDi hpre hcl ⟨hB, hR, hX⟩
    rw [hF]
    have hall : ∀ k ∈ pre md ops i, k < i := by
      have h := hb
      unfold backs at h
      rw [List.all_eq_true] at h
      have h2 := h i (List.mem_range.2 hi)
      rw [List.all_eq_true] at h2
      exact fun k hk => of_decide_eq_true (h2 k hk)
    refine wpOp_mono ?_ (hstep.at i hi D f w hDi hB hR (fun k hk => ⟨hpre k hk, hR k (Nat.lt_trans (hall k hk) hi) (hpre k hk)⟩) hcl hX)
    rintro a' w' ⟨v, rfl, hv, hE, hX'⟩
    have hB' := hbs _ _ hB hE
    unfold apartDsts at hd
    rw [List.all_eq_true] at hd
    have hdi := hd i (List.mem_range.2 hi)
    have hold : ∀ j, j < ops.size → upd D i j = true → j ≠ i → R j (opval ops f j) w' := by
      intro j hj hDj hji
      refine hst _ _ _ _ hB (hR j hj ?_) hE
      unfold upd at hDj
      have : Nat.beq j i = false := by rw [Bool.eq_false_iff]; exact fun e => hji (Nat.eq_of_beq_eq_true e)
      simpa [this] using hDj
    unfold updv at hX'
    unfold opdv at hv
    cases hdst : (ops[i]?).bind (·.dst) with
    | none =>
      rw [hdst] at hv hX'
      refine ⟨f, by rw [← hF]; rfl, hB', ?_, hX'⟩
      intro j hj hDj
      by_cases hji : j = i
      · subst hji
        have : opval ops f j = undef := by unfold opval; rw [hdst]
        rw [this]; exact hv
      · exact hold j hj hDj hji
    | some t =>
      rw [hdst] at hv hdi hX'
      simp only [Bool.and_eq_true, List.all_eq_true, Bool.or_eq_true, beq_iff_eq] at hdi
      refine ⟨setf f t v, by rw [← hF]; exact putAll_put (by simpa using hdi.1) v, hB', ?_, hX'⟩
      intro j hj hDj
      by_cases hji : j = i
      · subst hji
        have : opval ops (setf f t v) j = v := by unfold opval; rw [hdst]; simp [setf]
        rw [this]; exact hv
      · have hne := (hdi.2 j (List.mem_range.2 hj)).resolve_left hji
        have : opval ops (setf f t v) j = opval ops f j := by
          unfold opval
          cases hdj : (ops[j]?).bind (·.dst) with
          | none => rfl
          | some u =>
            rw [hdj] at hne
            have hut : u ≠ t := fun e => by subst e; simp at hne
            have : Nat.beq u t = false := by rw [Bool.eq_false_iff]; exact fun e => hut (Nat.eq_of_beq_eq_true e)
            simp [setf, this]
        rw [this]
        exact hold j hj hDj hji
  · rintro D f w hD ⟨hB, hR, hX⟩
    rw [hF]
    exact hdone D f w hD hB (fun i hi => hR i hi (hD i hi)) hX
end
end Go.Proofs.YtmhjimcdiglpcaaGreat
/- Sizes of a tape, and a number of units. -/
namespace Go.Proofs.YtmhjimcdiglpcaaGreat.Dr
open Go.RowKit Go.Sort C6 SN

/-- all blocks but B and the row's own are as they were -/
def EB (B : Nat) (v : Value) (w w' : World) : Prop := w'.os = w.os ∧ w'.tape = w.tape ∧ w'.output = w.output ∧ w.heap.size ≤ w'.heap.size ∧ ∀ b, b < w.heap.size → b ≠ B → v.ownBlock ≠ some b → w'.heap[b]? = w.heap[b]?
theorem EB.refl (B : Nat) (v : Value) (w : World) : EB B v w w := ⟨rfl, rfl, rfl, Nat.le_refl _, fun _ _ _ _ => rfl⟩
theorem EB.trans {B : Nat} {v : Value} {a b c : World} (h : EB B v a b) (k : EB B v b c) : EB B v a c :=
  ⟨k.1.trans h.1, k.2.1.trans h.2.1, k.2.2.1.trans h.2.2.1, Nat.le_trans h.2.2.2.1 k.2.2.2.1, fun x h1 h2 h3 => (k.2.2.2.2 x (Nat.lt_of_lt_of_le h1 h.2.2.2.1) h2 h3).trans (h.2.2.2.2 x h1 h2 h3)⟩
theorem EB.of_below {B : Nat} {v : Value} {w w' : World} (h : Below w.heap.size w w') : EB B v w w' := ⟨h.os, h.tape, h.output, h.size, fun b hb _ _ => h.block b hb⟩
theorem EB.of_gb {B : Nat} {v : Value} {w w' : World} (h : w.grownBy w' (some B)) : EB B v w w' := ⟨h.os, h.tape, h.output, h.size, fun b hb hn _ => h.block b hb (fun e => hn (Option.some.inj e))⟩
theorem EB.of_row {B : Nat} {v : Value} {w w' : World} (h : w.grownBy w' v.ownBlock) : EB B v w w' := ⟨h.os, h.tape, h.output, h.size, fun b hb _ hn => h.block b hb (fun e => hn e.symm)⟩
theorem rdv_eb {w w' : World} {B : Nat} {v : Value} {ao : Option Addr} {cap : Nat} {vs : List Value} (h : RdV w ao cap vs) (hb : 0 < vs.length → ∀ b o, ao = some ⟨b, o, none⟩ → b < B) (hv : ∀ k, v.ownBlock = some k → B < k) (e : EB B v w w') : RdV w' ao cap vs := by
  refine ⟨h.1, h.2.1, ?_⟩
  rcases h.2.2 with hn | ⟨bk, o, e0, hc⟩
  · exact .inl hn
  · refine .inr ⟨bk, o, e0, fun i v' hi => ?_⟩
    have hl : 0 < vs.length := by have := (List.getElem?_eq_some_iff.1 hi).1; omega
    have h1 := hc i v' hi
    have hlt := World.block_lt_of_cell? _ _ h1
    have hB := hb hl bk o e0
    exact (World.cell?_of_block (a := ⟨bk, o + i, none⟩) (e.2.2.2.2 bk hlt (by omega) (fun q => by have := hv bk q; omega))).trans h1
theorem row7 {w : World} {g : Nat} {t : TypeId} (h : w.heap[g]? = some (.cells #[.int .i64 1, .int .i64 2, .int .i64 3, .int .i64 5, .int .i64 10, .int .i64 50, .int .i64 400] t (0, 0))) {i : Nat} (hi : i < 7) : ∃ x : Int, w.cell? ⟨g, i, none⟩ = some (.int .i64 x) ∧ 1 ≤ x ∧ x ≤ 400 := by
  have : i = 0 ∨ i = 1 ∨ i = 2 ∨ i = 3 ∨ i = 4 ∨ i = 5 ∨ i = 6 := by omega
  rcases this with rfl | rfl | rfl | rfl | rfl | rfl | rfl
  · exact ⟨1, by simp [World.cell?, h], by omega⟩
  · exact ⟨2, by simp [World.cell?, h], by omega⟩
  · exact ⟨3, by simp [World.cell?, h], by omega⟩
  · exact ⟨5, by simp [World.cell?, h], by omega⟩
  · exact ⟨10, by simp [World.cell?, h], by omega⟩
  · exact ⟨50, by simp [World.cell?, h], by omega⟩
  · exact ⟨400, by simp [World.cell?, h], by omega⟩
/-- the row with one more size -/
def RowAt (M n : Nat) (xs : List Int) (v : Value) (w : World) : Prop := ∃ a c y, v = .slice a (n + 1) c ∧ 1 ≤ y ∧ y ≤ 402 ∧ w.ownsRow M 2 1 (.slice a (n + 1) c) (n + 1) (intz (xs ++ [y]))
def XM (B : Nat) (ao : Option Addr) (l cap i M : Nat) (v : Value) (n : Nat) (xs : List Int) (d3 d7 d10 d11 : Bool) (f20 f4 : Value) (w : World) : Prop :=
  Tap w B ao l cap (bif d7 then i + 1 + 1 else bif d3 then i + 1 else i) ∧ (d10 = false → w.ownsRow M 2 1 v n (intz xs)) ∧ (d10 = true → RowAt M n xs f20 w) ∧ (d11 = true → RowAt M n xs f4 w) ∧ (d11 = false → f4 = v)
theorem XM.below {B : Nat} {ao : Option Addr} {l cap i M : Nat} {v : Value} {n : Nat} {xs : List Int} {d3 d7 d10 d11 : Bool} {f20 f4 : Value} {w w' : World} (h : XM B ao l cap i M v n xs d3 d7 d10 d11 f20 f4 w) (b : Below w.heap.size w w') : XM B ao l cap i M v n xs d3 d7 d10 d11 f20 f4 w' := by
  obtain ⟨h1, h2, h3, h4, h5⟩ := h
  refine ⟨h1.keep b, fun h => row_below (h2 h) b, fun h => ?_, fun h => ?_, h5⟩
  · obtain ⟨a, c, y, e, y1, y2, hr⟩ := h3 h
    exact ⟨a, c, y, e, y1, y2, row_below hr b⟩
  · obtain ⟨a, c, y, e, y1, y2, hr⟩ := h4 h
    exact ⟨a, c, y, e, y1, y2, row_below hr b⟩
theorem infoI64 : (Tryz.prog.info? 2).map (fun i => (i.zero, i.size, i.bytes)) = some (some (.int .i64 0), 1, 8) := by kernel_rfl
/-- what made gives -/
def MadePost (B : Nat) (to' : Option Addr) (l tc i : Nat) (w : World) (e : Ending) (w' : World) : Prop := ∃ a c xs k, e = .returned (.tuple #[.slice a xs.length c, .int .i64 (k : Int)]) ∧ 1 ≤ xs.length ∧ xs.length ≤ 8 ∧ (∀ x ∈ xs, 1 ≤ x ∧ x ≤ 402) ∧ 1 ≤ k ∧ k ≤ xs.length ∧ RdZ w' a c xs ∧ w.grownBy w' (some B) ∧ ∃ j, j ≤ i + 20 ∧ Tap w' B to' l tc j ∧ (0 < xs.length → ∀ b o, a = some ⟨b, o, none⟩ → b ≠ B)

def PM (W : World) (B : Nat) (v : Value) : List (Value → World → Prop) := [fun u _ => u = v, fun u w => ∃ g, u = .slice (some ⟨g, 0, none⟩) 7 7 ∧ W.heap.size ≤ g ∧ w.heap[g]? = some (.cells #[.int .i64 1, .int .i64 2, .int .i64 3, .int .i64 5, .int .i64 10, .int .i64 50, .int .i64 400] 3 (0, 0)), fun u _ => u = .pointer (some ⟨B, 0, none⟩), fun u _ => ∃ q : Nat, q < 7 ∧ u = .int .i64 (q : Int), fun u w => ∃ g q x, u = .pointer (some ⟨g, q, none⟩) ∧ W.heap.size ≤ g ∧ w.cell? ⟨g, q, none⟩ = some (.int .i64 x) ∧ 1 ≤ x ∧ x ≤ 400, fun u _ => ∃ x, u = .int .i64 x ∧ 1 ≤ x ∧ x ≤ 400, fun u _ => u = .pointer (some ⟨B, 0, none⟩), fun u _ => ∃ q : Nat, q < 3 ∧ u = .int .i64 (q : Int), fun u _ => ∃ y, u = .int .i64 y ∧ 1 ≤ y ∧ y ≤ 402, fun u w => ∃ g y, u = .slice (some ⟨g, 0, none⟩) 1 1 ∧ W.heap.size ≤ g ∧ w.heap[g]? = some (.cells #[.int .i64 y] 2 (0, 0)) ∧ 1 ≤ y ∧ y ≤ 402, fun _ _ => True, fun _ _ => True]
theorem PM.st {W : World} {B : Nat} {v : Value} (hB : B < W.heap.size) (hv : ∀ k, v.ownBlock = some k → k < W.heap.size) : ∀ p ∈ PM W B v, ∀ u w w', p u w → EB B v w w' → p u w' := by
  have blk : ∀ {g : Nat} {w w' : World}, W.heap.size ≤ g → g < w.heap.size → EB B v w w' → w'.heap[g]? = w.heap[g]? := fun hg hl e => e.2.2.2.2 _ hl (by omega) (fun q => by have := hv _ q; omega)
  intro p hp
  unfold PM at hp
  simp only [List.mem_cons, List.not_mem_nil, or_false] at hp
  rcases hp with rfl | rfl | rfl | rfl | rfl | rfl | rfl | rfl | rfl | rfl | rfl | rfl
  · intro u w w' h _; exact h
  · rintro u w w' ⟨g, h1, h2, h3⟩ e
    exact ⟨g, h1, h2, (blk h2 (Array.getElem?_eq_some_iff.1 h3).1 e).trans h3⟩
  · intro u w w' h _; exact h
  · intro u w w' h _; exact h
  · rintro u w w' ⟨g, q, x, h1, h2, h3, h4⟩ e
    exact ⟨g, q, x, h1, h2, (World.cell?_of_block (a := ⟨g, q, none⟩) (blk h2 (World.block_lt_of_cell? _ _ h3) e)).trans h3, h4⟩
  · intro u w w' h _; exact h
  · intro u w w' h _; exact h
  · intro u w w' h _; exact h
  · intro u w w' h _; exact h
  · rintro u w w' ⟨g, y, h1, h2, h3, h4⟩ e
    exact ⟨g, y, h1, h2, (blk h2 (Array.getElem?_eq_some_iff.1 h3).1 e).trans h3, h4⟩
  · intro u w w' h _; exact h
  · intro u w w' h _; exact h
def LsE (l : List (Value → World → Prop)) (i : Nat) (v : Value) (w : World) : Prop := (l.getD i (fun _ _ => True)) v w
theorem LsE.ext {E : World → World → Prop} {l : List (Value → World → Prop)} (h : ∀ p ∈ l, ∀ u w w', p u w → E w w' → p u w') (i : Nat) (v : Value) (w w' : World) (hr : LsE l i v w) (hE : E w w') : LsE l i v w' := by
  unfold LsE at hr ⊢
  rw [List.getD] at hr ⊢
  cases hg : l[i]? with
  | none => trivial
  | some p =>
    rw [hg] at hr
    exact h p (List.mem_of_getElem? hg) v w w' hr hE

set_option maxHeartbeats 16000000 in
set_option maxRecDepth 100000 in
theorem made_v (B : Nat) (to' : Option Addr) (tc : Nat) (ts : List Int) (i0' : Nat) (w : World) (hb : Tap w B to' ts.length tc i0') (ht : RdZ w to' tc ts) (htB : 0 < (intz ts).length → ∀ b o, to' = some ⟨b, o, none⟩ → b < B) (hi0 : i0' ≤ 900) :
    Calls Tryz.prog 6 #[.pointer (some ⟨B, 0, none⟩)] w (MadePost B to' ts.length tc i0' w) := by
  obtain ⟨i0, hi, hz0, hz1, hz2⟩ := info_partsr infoI64
  have NX := Lib.hid (Next_v B to' tc ts i0' 8 w hb ht (by omega) (by omega) (by omega) 8 rfl)
  have HT := Lib.hid ht
  have hTB : Hid (0 < (intz ts).length → ∀ b o, to' = some ⟨b, o, none⟩ → b < B) := htB
  have hBl : Hid (B < w.heap.size) := hb.lt
  clear hb ht htB
  go_enter Tryz.func6, Tryz.ntmps6
  go_wp2_with fail
  refine NX.out.mono ?_; rintro e w2 ⟨r1, rfl, hr1, g2, z2, t2⟩
  have T2 := Lib.hid t2
  have R2 := Lib.hid (rd_gbE HT.out hTB.out (Nat.le_of_lt hBl.out) g2)
  have G2 := Lib.hid g2
  have hB2 : Hid (B < w2.heap.size) := by unfold Hid; rw [z2]; exact hBl.out
  clear g2 z2 t2 NX
  obtain ⟨N, hN⟩ : ∃ x : Nat, x = 1 + r1 := ⟨_, rfl⟩
  have hN8 : N ≤ 8 := by omega
  have hN1 : 1 ≤ N := by omega
  have hNi : 1 + (r1 : Int) = (N : Int) := by omega
  have hNw : IntKind.i64.wrap (N : Int) = (N : Int) := IntWalk.i64_in _ (by omega)
  clear hN hr1
  obtain ⟨M, hM⟩ : ∃ M, M = w2.heap.size := ⟨_, rfl⟩
  have HM := Lib.hid hM
  clear hM
  have hMB : Hid (B < M) := by unfold Hid; rw [HM.out]; exact hB2.out
  go_wp2_with fail
  clear hNi hNw
  go_loopw [8, 4] (fun s8 s4 wr => ∃ (n : Nat) (v : Value) (xs : List Int), n ≤ N ∧ s8 = .int .i64 (n : Int) ∧ v = s4 ∧ Hid (wr.ownsRow M 2 1 v n (intz xs)) ∧ Hid (∀ x ∈ xs, 1 ≤ x ∧ x ≤ 402) ∧ Hid (Tap wr B to' ts.length tc (i0' + 1 + 2 * n)) ∧ Hid (w2.grownBy wr (some B))) (fun s8 _ _ => N - (intOf s8).toNat)
  case atStart => exact ⟨0, _, [], by omega, rfl, rfl, World.ownsRow_nil _ _ _ _, (show ∀ x ∈ ([] : List Int), _ from fun x hx => by simp at hx), T2.out, World.grownBy.refl _ _⟩
  case round =>
    obtain ⟨n, v, xs, hnN, rfl, rfl, hown, hxs, htp, hgb⟩ := hrel
    have hwM : M ≤ wr.heap.size := by rw [HM.out]; exact hgb.out.size
    by_cases hlt : n < N
    · have hlt2 : (n : Int) < (N : Int) := by omega
      obtain ⟨W, hW⟩ : ∃ W, W = wr := ⟨_, rfl⟩
      obtain ⟨i, hii⟩ : ∃ i, i = i0' + 1 + 2 * n := ⟨_, rfl⟩
      have hi9 : i ≤ 990 := by omega
      have HRW : Hid (RdV W to' tc (intz ts)) := by rw [hW]; exact rd_gbE R2.out hTB.out (Nat.le_of_lt hB2.out) hgb.out
      have hvb : Hid (∀ k, v.ownBlock = some k → B < k) := fun k e => by have := (hown.out.lt k e).1; have := hMB.out; omega
      have hvl : Hid (∀ k, v.ownBlock = some k → k < W.heap.size) := fun k e => by rw [hW]; exact (hown.out.lt k e).2
      have hMW : Hid (M ≤ W.heap.size) := by rw [hW]; exact hwM
      have HOW : Hid (W.ownsRow M 2 1 v n (intz xs)) := by rw [hW]; exact hown.out
      have HTW : Hid (Tap W B to' ts.length tc i) := by rw [hW, hii]; exact htp.out
      have HGW : Hid (w2.grownBy W (some B)) := by rw [hW]; exact hgb.out
      have hn8 : n ≤ 8 := by omega
      have HII := Lib.hid hii
      go_upto_region 4 with fail
      rw [← hW]
      clear hW hown htp hgb hii hwM
      refine wp_region_any (by kernel_rfl) ?_
      refine region_ssa2 [10, 11, 12, 13, 14, 15, 16, 17, 18, 19, 20, 4] (EB B v W) (EB B v) (LsE (PM W B v)) (fun D f w1 => XM B to' ts.length tc i M v n xs (D 3) (D 7) (D 10) (D 11) (f 20) (f 4) w1) (fun f => rfl) (by kernel_rfl) (by kernel_rfl) ?_ ?_ ?_ ?_ (AllF.below (n := 12) ?_) ?_
      · exact ⟨rfl, rfl, rfl, Nat.le_refl _, fun _ _ _ _ => rfl⟩
      · exact ⟨HTW.out, fun _ => HOW.out, fun h => (by cases h), fun h => (by cases h), fun _ => rfl⟩
      · intro jx vx w1 w2 _ h hE; exact LsE.ext (PM.st (by have := hMB.out; have := hMW.out; omega) hvl.out) jx vx w1 w2 h hE
      · intro w1 w2 hB hE; exact hB.trans hE
      · refine AllF.step (m := 11) (j := 1) rfl ?_ ?_
        · intro D f w1 hD hB hR hp hcl hX
          have h11 : D 11 = false := noF (hcl 11) (by kernel_rfl) hD
          have e4 : f 4 = v := hX.2.2.2.2 h11
          clear h11
          have HX := Lib.hid hX
          have HC := Lib.hid hcl
          have HB := Lib.hid hB
          have HD := Lib.hid hD
          clear hX hcl hB hD hR hp
          refine wpOp_step rfl (fun K hK => ?_)
          simp only [putAll, Act.put, List.setIfInBounds_toArray, List.set_cons_succ, List.set_cons_zero]
          go_simp
          exact hK _ _ ⟨v, (by show _ = Act.put _ (some 10) _; simp only [putAll, Act.put, List.setIfInBounds_toArray, List.set_cons_succ, List.set_cons_zero, *]; all_goals rfl), rfl, EB.refl _ _ _, HX.out⟩
        refine AllF.step (m := 10) (j := 2) rfl ?_ ?_
        · intro D f w1 hD hB hR hp hcl hX
          have hs1 : Hid (W.heap.size ≤ w1.heap.size) := hB.2.2.2.1
          have HX := Lib.hid hX
          have HC := Lib.hid hcl
          have HB := Lib.hid hB
          have HD := Lib.hid hD
          clear hX hcl hB hD hR hp
          refine wpOp_step rfl (fun K hK => ?_)
          simp only [putAll, Act.put, List.setIfInBounds_toArray, List.set_cons_succ, List.set_cons_zero]
          go_simp
          refine hK _ _ ⟨.slice (some ⟨w1.heap.size, 0, none⟩) 7 7, (by show _ = Act.put _ (some 11) _; simp only [putAll, Act.put, List.setIfInBounds_toArray, List.set_cons_succ, List.set_cons_zero, *]; all_goals rfl), ⟨w1.heap.size, rfl, hs1.out, heap_alloc_new _ _⟩, EB.of_below (below_new _ _), ?_⟩
          exact XM.below HX.out (below_new _ _)
        refine AllF.step (m := 9) (j := 3) rfl ?_ ?_
        · intro D f w1 hD hB hR hp hcl hX
          have HX := Lib.hid hX
          have HC := Lib.hid hcl
          have HB := Lib.hid hB
          have HD := Lib.hid hD
          clear hX hcl hB hD hR hp
          refine wpOp_step rfl (fun K hK => ?_)
          simp only [putAll, Act.put, List.setIfInBounds_toArray, List.set_cons_succ, List.set_cons_zero]
          go_simp
          exact hK _ _ ⟨.pointer (some ⟨B, 0, none⟩), (by show _ = Act.put _ (some 12) _; simp only [putAll, Act.put, List.setIfInBounds_toArray, List.set_cons_succ, List.set_cons_zero, *]; all_goals rfl), rfl, EB.refl _ _ _, HX.out⟩
        refine AllF.step (m := 8) (j := 4) rfl ?_ ?_
        · intro D f w1 hD hB hR hp hcl hX
          have e2 : f 12 = .pointer (some ⟨B, 0, none⟩) := (hpAt hp 2 (by kernel_rfl)).2
          have h7 : D 7 = false := noF (hcl 7) (by kernel_rfl) hD
          have h10 : D 10 = false := noF (hcl 10) (by kernel_rfl) h7
          have h11 : D 11 = false := noF (hcl 11) (by kernel_rfl) h10
          have hx := hX
          rw [hD, h7, h10, h11] at hx
          have HXX := Lib.hid hx
          have HH : Hid (upd D 3 7 = false ∧ upd D 3 10 = false ∧ upd D 3 11 = false) := ⟨h7, h10, h11⟩
          have HRD := Lib.hid (rdv_eb HRW.out hTB.out hvb.out hB)
          clear hx h7 h10 h11
          have HX := Lib.hid hX
          have HC := Lib.hid hcl
          have HB := Lib.hid hB
          have HD := Lib.hid hD
          clear hX hcl hB hD hR hp
          refine wpOp_step rfl (fun K hK => ?_)
          simp only [putAll, Act.put, List.setIfInBounds_toArray, List.set_cons_succ, List.set_cons_zero]
          go_simp
          refine (Next_v B to' tc ts i 7 w1 HXX.out.1 HRD.out (by omega) (by omega) (by omega) 7 rfl).mono ?_; rintro e w2 ⟨r, rfl, hr, g2, _, t2⟩
          go_simp
          refine hK _ _ ⟨.int .i64 (r : Int), (by show _ = Act.put _ (some 13) _; simp only [putAll, Act.put, List.setIfInBounds_toArray, List.set_cons_succ, List.set_cons_zero, *]; all_goals rfl), ⟨r, hr, rfl⟩, EB.of_gb g2, ?_⟩
          show XM _ _ _ _ _ _ _ _ _ true (upd D 3 7) (upd D 3 10) (upd D 3 11) _ _ _
          rw [HH.out.1, HH.out.2.1, HH.out.2.2]
          exact ⟨t2, fun _ => (HXX.out.2.1 rfl).kept g2 (C6.row_block (HXX.out.2.1 rfl) hMB.out), fun h => (by cases h), fun h => (by cases h), fun _ => HXX.out.2.2.2.2 rfl⟩
        refine AllF.step (m := 7) (j := 5) rfl ?_ ?_
        · intro D f w1 hD hB hR hp hcl hX
          obtain ⟨g, eg, hg, hc⟩ := (hpAt hp 1 (by kernel_rfl)).2
          replace eg : f 11 = _ := eg
          obtain ⟨q, hq, eq⟩ := (hpAt hp 3 (by kernel_rfl)).2
          replace eq : f 13 = _ := eq
          obtain ⟨x, hx, hx1, hx2⟩ := row7 hc hq
          have hq7 : (q : Int) < 7 := by omega
          clear hc
          have HX := Lib.hid hX
          have HC := Lib.hid hcl
          have HB := Lib.hid hB
          have HD := Lib.hid hD
          clear hX hcl hB hD hR hp
          refine wpOp_step rfl (fun K hK => ?_)
          simp only [putAll, Act.put, List.setIfInBounds_toArray, List.set_cons_succ, List.set_cons_zero]
          go_simp
          exact hK _ _ ⟨.pointer (some ⟨g, q, none⟩), (by show _ = Act.put _ (some 14) _; simp only [putAll, Act.put, List.setIfInBounds_toArray, List.set_cons_succ, List.set_cons_zero, *]; all_goals rfl), ⟨g, q, x, rfl, hg, hx, hx1, hx2⟩, EB.refl _ _ _, HX.out⟩
        refine AllF.step (m := 6) (j := 6) rfl ?_ ?_
        · intro D f w1 hD hB hR hp hcl hX
          obtain ⟨g, q, x, ep, hg, hx, hx1, hx2⟩ := (hpAt hp 4 (by kernel_rfl)).2
          replace ep : f 14 = _ := ep
          have HX := Lib.hid hX
          have HC := Lib.hid hcl
          have HB := Lib.hid hB
          have HD := Lib.hid hD
          clear hX hcl hB hD hR hp
          refine wpOp_step rfl (fun K hK => ?_)
          simp only [putAll, Act.put, List.setIfInBounds_toArray, List.set_cons_succ, List.set_cons_zero]
          go_simp
          exact hK _ _ ⟨.int .i64 x, (by show _ = Act.put _ (some 15) _; simp only [putAll, Act.put, List.setIfInBounds_toArray, List.set_cons_succ, List.set_cons_zero, *]; all_goals rfl), ⟨x, rfl, hx1, hx2⟩, EB.refl _ _ _, HX.out⟩
        refine AllF.step (m := 5) (j := 7) rfl ?_ ?_
        · intro D f w1 hD hB hR hp hcl hX
          have HX := Lib.hid hX
          have HC := Lib.hid hcl
          have HB := Lib.hid hB
          have HD := Lib.hid hD
          clear hX hcl hB hD hR hp
          refine wpOp_step rfl (fun K hK => ?_)
          simp only [putAll, Act.put, List.setIfInBounds_toArray, List.set_cons_succ, List.set_cons_zero]
          go_simp
          exact hK _ _ ⟨.pointer (some ⟨B, 0, none⟩), (by show _ = Act.put _ (some 16) _; simp only [putAll, Act.put, List.setIfInBounds_toArray, List.set_cons_succ, List.set_cons_zero, *]; all_goals rfl), rfl, EB.refl _ _ _, HX.out⟩
        refine AllF.step (m := 4) (j := 8) rfl ?_ ?_
        · intro D f w1 hD hB hR hp hcl hX
          have e6 : f 16 = .pointer (some ⟨B, 0, none⟩) := (hpAt hp 6 (by kernel_rfl)).2
          have h3 : D 3 = true := (hpAt hp 3 (by kernel_rfl)).1
          have h10 : D 10 = false := noF (hcl 10) (by kernel_rfl) hD
          have h11 : D 11 = false := noF (hcl 11) (by kernel_rfl) h10
          have hx := hX
          rw [h3, hD, h10, h11] at hx
          have HXX := Lib.hid hx
          have HH : Hid (upd D 7 3 = true ∧ upd D 7 10 = false ∧ upd D 7 11 = false) := ⟨h3, h10, h11⟩
          have HRD := Lib.hid (rdv_eb HRW.out hTB.out hvb.out hB)
          clear hx h3 h10 h11
          have HX := Lib.hid hX
          have HC := Lib.hid hcl
          have HB := Lib.hid hB
          have HD := Lib.hid hD
          clear hX hcl hB hD hR hp
          refine wpOp_step rfl (fun K hK => ?_)
          simp only [putAll, Act.put, List.setIfInBounds_toArray, List.set_cons_succ, List.set_cons_zero]
          go_simp
          refine (Next_v B to' tc ts (i + 1) 3 w1 HXX.out.1 HRD.out (by omega) (by omega) (by omega) 3 rfl).mono ?_; rintro e w2 ⟨r, rfl, hr, g2, _, t2⟩
          go_simp
          refine hK _ _ ⟨.int .i64 (r : Int), (by show _ = Act.put _ (some 17) _; simp only [putAll, Act.put, List.setIfInBounds_toArray, List.set_cons_succ, List.set_cons_zero, *]; all_goals rfl), ⟨r, hr, rfl⟩, EB.of_gb g2, ?_⟩
          show XM _ _ _ _ _ _ _ _ _ (upd D 7 3) true (upd D 7 10) (upd D 7 11) _ _ _
          rw [HH.out.1, HH.out.2.1, HH.out.2.2]
          exact ⟨t2, fun _ => (HXX.out.2.1 rfl).kept g2 (C6.row_block (HXX.out.2.1 rfl) hMB.out), fun h => (by cases h), fun h => (by cases h), fun _ => HXX.out.2.2.2.2 rfl⟩
        refine AllF.step (m := 3) (j := 9) rfl ?_ ?_
        · intro D f w1 hD hB hR hp hcl hX
          obtain ⟨x, ex, hx1, hx2⟩ := (hpAt hp 5 (by kernel_rfl)).2
          replace ex : f 15 = _ := ex
          obtain ⟨q, hq, eq⟩ := (hpAt hp 7 (by kernel_rfl)).2
          replace eq : f 17 = _ := eq
          obtain ⟨y, hy⟩ : ∃ y : Int, y = x + (q : Int) := ⟨_, rfl⟩
          have hyb : 1 ≤ y ∧ y ≤ 402 := by omega
          have hyw : IntKind.i64.wrap y = y := IntWalk.i64_in _ (by omega)
          have hyy : x + (q : Int) = y := hy.symm
          clear hy
          have HX := Lib.hid hX
          have HC := Lib.hid hcl
          have HB := Lib.hid hB
          have HD := Lib.hid hD
          clear hX hcl hB hD hR hp
          refine wpOp_step rfl (fun K hK => ?_)
          simp only [putAll, Act.put, List.setIfInBounds_toArray, List.set_cons_succ, List.set_cons_zero]
          go_simp
          exact hK _ _ ⟨.int .i64 y, (by show _ = Act.put _ (some 18) _; simp only [putAll, Act.put, List.setIfInBounds_toArray, List.set_cons_succ, List.set_cons_zero, *]; all_goals rfl), ⟨y, rfl, hyb.1, hyb.2⟩, EB.refl _ _ _, HX.out⟩
        refine AllF.step (m := 2) (j := 10) rfl ?_ ?_
        · intro D f w1 hD hB hR hp hcl hX
          obtain ⟨y, ey, hy1, hy2⟩ := (hpAt hp 8 (by kernel_rfl)).2
          replace ey : f 18 = _ := ey
          have hs1 : Hid (W.heap.size ≤ w1.heap.size) := hB.2.2.2.1
          have HX := Lib.hid hX
          have HC := Lib.hid hcl
          have HB := Lib.hid hB
          have HD := Lib.hid hD
          clear hX hcl hB hD hR hp
          refine wpOp_step rfl (fun K hK => ?_)
          simp only [putAll, Act.put, List.setIfInBounds_toArray, List.set_cons_succ, List.set_cons_zero]
          go_simp
          refine hK _ _ ⟨.slice (some ⟨w1.heap.size, 0, none⟩) 1 1, (by show _ = Act.put _ (some 19) _; simp only [putAll, Act.put, List.setIfInBounds_toArray, List.set_cons_succ, List.set_cons_zero, *]; all_goals rfl), ⟨w1.heap.size, y, rfl, hs1.out, heap_alloc_new _ _, hy1, hy2⟩, EB.of_below (below_new _ _), ?_⟩
          exact XM.below HX.out (below_new _ _)
        refine AllF.step (m := 1) (j := 11) rfl ?_ ?_
        · intro D f w1 hD hB hR hp hcl hX
          have e0 : f 10 = v := (hpAt hp 0 (by kernel_rfl)).2
          obtain ⟨g, y, eg, hg, hc, hy1, hy2⟩ := (hpAt hp 9 (by kernel_rfl)).2
          replace eg : f 19 = _ := eg
          have h7 : D 7 = true := (hpAt hp 7 (by kernel_rfl)).1
          have h3 : D 3 = true := by have := hcl 7 h7 3 (by decide); exact this
          have h11 : D 11 = false := noF (hcl 11) (by kernel_rfl) hD
          have hx := hX
          rw [h3, h7, hD, h11] at hx
          have HXX := Lib.hid hx
          have HH : Hid (upd D 10 3 = true ∧ upd D 10 7 = true ∧ upd D 10 11 = false) := ⟨h3, h7, h11⟩
          have HCC := Lib.hid hc
          have hs1 : Hid (W.heap.size ≤ w1.heap.size) := hB.2.2.2.1
          clear hx h3 h7 h11 hc
          have HX := Lib.hid hX
          have HC := Lib.hid hcl
          have HB := Lib.hid hB
          have HD := Lib.hid hD
          clear hX hcl hB hD hR hp
          refine wpOp_step rfl (fun K hK => ?_)
          simp only [putAll, Act.put, List.setIfInBounds_toArray, List.set_cons_succ, List.set_cons_zero]
          rw [if_pos (by simp [Region.wanted])]
          refine wp_append_own w1 (.tmp 10) (.tmp 19) 26 (by rfl) M 2 i0 (.int .i64 0) 1 8 Tryz.underlying26 hi hz0 hz1 hz2 rfl (by decide) v n (intz xs) (by simp [Act.eval, e0]) (HXX.out.2.1 rfl) ⟨g, 0, none⟩ 1 1 [.int .i64 y] (by simp [Act.eval, eg]) rfl (World.news_of_block HCC.out) (by intro u hu; simp at hu; rcases hu with rfl; rfl) (by unfold maxLen; omega) (by omega) (Nat.le_trans hMW.out hs1.out) ?_; intro v4 w4 hown4 hgr4 _; obtain ⟨a4, c4, rfl⟩ := row_n hown4
          have hO4 : w4.ownsRow M 2 1 (.slice a4 (n + 1) c4) (n + 1) (intz (xs ++ [y])) := by rw [intz_snoc']; exact hown4
          have hT4 : Tap w4 B to' ts.length tc (i + 1 + 1) := Tap.grown HXX.out.1 hgr4 (fun q => by have := ((HXX.out.2.1 rfl).lt _ q.symm).1; have := hMB.out; omega)
          refine hK _ _ ⟨.slice a4 (n + 1) c4, (by show _ = Act.put _ (some 20) _; simp only [putAll, Act.put, List.setIfInBounds_toArray, List.set_cons_succ, List.set_cons_zero, *]; all_goals rfl), trivial, EB.of_row hgr4, ?_⟩
          show XM _ _ _ _ _ _ _ _ _ (upd D 10 3) (upd D 10 7) true (upd D 10 11) _ _ _
          rw [HH.out.1, HH.out.2.1, HH.out.2.2]
          exact ⟨hT4, fun h => (by cases h), fun _ => ⟨a4, c4, y, rfl, hy1, hy2, hO4⟩, fun h => (by cases h), fun _ => HXX.out.2.2.2.2 rfl⟩
        refine AllF.step (m := 0) (j := 12) rfl ?_ ?_
        · intro D f w1 hD hB hR hp hcl hX
          have h10 : D 10 = true := (hpAt hp 10 (by kernel_rfl)).1
          have h7 : D 7 = true := by have := hcl 10 h10 7 (by decide); exact this
          have h3 : D 3 = true := by have := hcl 7 h7 3 (by decide); exact this
          have hx := hX
          rw [h3, h7, h10, hD] at hx
          obtain ⟨a4, c4, y, e20, hy1, hy2, hO4⟩ := hx.2.2.1 rfl
          have HXX := Lib.hid hx
          have HH : Hid (upd D 11 3 = true ∧ upd D 11 7 = true ∧ upd D 11 10 = true) := ⟨h3, h7, h10⟩
          have HO4 := Lib.hid hO4
          clear hx h3 h7 h10 hO4
          have HX := Lib.hid hX
          have HC := Lib.hid hcl
          have HB := Lib.hid hB
          have HD := Lib.hid hD
          clear hX hcl hB hD hR hp
          refine wpOp_step rfl (fun K hK => ?_)
          simp only [putAll, Act.put, List.setIfInBounds_toArray, List.set_cons_succ, List.set_cons_zero]
          go_simp
          refine hK _ _ ⟨.slice a4 (n + 1) c4, (by show _ = Act.put _ (some 4) _; simp only [putAll, Act.put, List.setIfInBounds_toArray, List.set_cons_succ, List.set_cons_zero, *]; all_goals rfl), trivial, EB.refl _ _ _, ?_⟩
          show XM _ _ _ _ _ _ _ _ _ (upd D 11 3) (upd D 11 7) (upd D 11 10) true _ _ _
          rw [HH.out.1, HH.out.2.1, HH.out.2.2]
          exact ⟨HXX.out.1, fun h => (by cases h), fun _ => ⟨a4, c4, y, e20, hy1, hy2, HO4.out⟩, fun _ => ⟨a4, c4, y, rfl, hy1, hy2, HO4.out⟩, fun h => (by cases h)⟩
        exact trivial
      · intro D f w1 hall hB hR hX
        have hx := hX
        rw [hall 3 (by decide), hall 7 (by decide), hall 10 (by decide), hall 11 (by decide)] at hx
        obtain ⟨a, c, y, e4, hy1, hy2, hrow⟩ := hx.2.2.2.1 rfl
        have HTP : Hid (Tap w1 B to' ts.length tc (i0' + 1 + 2 * (n + 1))) := by
          have := hx.1
          rw [HII.out] at this
          exact this
        have HROW := Lib.hid hrow
        have HXS : Hid (∀ z ∈ xs ++ [y], 1 ≤ z ∧ z ≤ 402) := fun z hz => by
          rcases List.mem_append.1 hz with h | h
          · exact hxs.out z h
          · rw [List.mem_singleton.1 h]; exact ⟨hy1, hy2⟩
        have HGB : Hid (w2.grownBy w1 (some B)) := ⟨hB.1.trans HGW.out.os, hB.2.1.trans HGW.out.tape, hB.2.2.1.trans HGW.out.output, Nat.le_trans HGW.out.size hB.2.2.2.1, fun b hb hne => (hB.2.2.2.2 b (Nat.lt_of_lt_of_le hb HGW.out.size) (fun q => hne (by rw [q])) (fun q => by have := (HOW.out.lt b q).1; have := HM.out; omega)).trans (HGW.out.block b hb hne)⟩
        clear hx hrow hX hR hall hB
        simp only [putAll, Act.put, List.setIfInBounds_toArray, List.set_cons_succ, List.set_cons_zero, e4]
        clear e4
        go_wp2_with fail
        go_roundw
        case rel => exact ⟨n + 1, .slice a (n + 1) c, xs ++ [y], by omega, by go_num, rfl, HROW, HXS, HTP, HGB⟩
        case measure => simp [intOf]; omega
    · obtain rfl : n = N := by omega
      have hlt2 : ¬ (n : Int) < (n : Int) := by omega
      obtain ⟨a, c, rfl⟩ := row_n hown.out
      have hxl : xs.length = n := by have := hown.out.1; rw [intz_length] at this; omega
      have hrd : Hid (RdZ wr a c xs) := rdz_row hxl hown.out
      have hRw := Lib.hid (rd_gbE R2.out hTB.out (Nat.le_of_lt hB2.out) hgb.out)
      have NX := Lib.hid (Next_v B to' tc ts (i0' + 1 + 2 * n) n wr htp.out hRw.out (by omega) hN1 (by omega) (n : Int) rfl)
      have hbb : Hid (0 < xs.length → ∀ b o, a = some ⟨b, o, none⟩ → b ≠ B) := fun _ b o e => by
        subst e
        have := (hown.out.lt b rfl).1
        have := hMB.out
        omega
      have HGB := hgb
      clear htp hgb hown hRw
      go_wp2_with fail
      refine NX.out.mono ?_; rintro e w9 ⟨r9, rfl, hr9, g9, _, t9⟩
      have HT9 := Lib.hid t9
      have hrd9 : Hid (RdZ w9 a c xs) := rdv_gb hrd.out (by rw [intz_length]; exact hbb.out) g9
      have HG9 := Lib.hid (gb_trans (gb_trans G2.out HGB.out) g9)
      obtain ⟨k, hk⟩ : ∃ x : Nat, x = 1 + r9 := ⟨_, rfl⟩
      have hki : 1 + (r9 : Int) = (k : Int) := by omega
      have hkw : IntKind.i64.wrap (k : Int) = (k : Int) := IntWalk.i64_in _ (by omega)
      have hkb : 1 ≤ k ∧ k ≤ n := by omega
      clear hk hr9 g9 t9
      go_wp2_with fail
      refine bodyPost_ret (v := .tuple #[.slice a n c, .int .i64 (k : Int)]) (by simp [results, Tryz.results6, go_sem]) rfl ?_
      exact ⟨a, c, xs, k, by rw [hxl], by omega, by omega, hxs.out, by omega, by omega, hrd9.out, HG9.out, _, by omega, HT9.out, hbb.out⟩
end Go.Proofs.YtmhjimcdiglpcaaGreat.Dr
