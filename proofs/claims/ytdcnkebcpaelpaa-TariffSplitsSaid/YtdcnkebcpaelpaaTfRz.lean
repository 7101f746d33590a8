import Derived.Test.YtdcnkebcpaelpaaPairs
import Derived.Test.YtdcnkebcpaelpaaTfW0
import Derived.Test.YtdcnkebcpaelpaaTfQ0
/- Drawn regions some of whose operations ('late': stores into the boxes that the region reads) may spoil the condition S: behind each other operation S holds, or the world is as it was. An operation that yields its value in every world that meets S is taken first if every late one waits for it (maybe through others: the list bl); one that yields it in whatever world, always. -/
namespace Go.Proofs.Ytdcnkebcpaelpaa

section
variable {P : Program} {ops : Array Oper} {Q : Exit → Act → World → Prop} {md : Region.Mode} {S : World → Prop} {late : List Nat}

/-- what is asked behind operation i -/
def Behind (S : World → Prop) (late : List Nat) (i : Nat) (w w' : World) : Prop := late.contains i = true ∨ w' = w ∨ S w'
/-- whatever order is picked -/
def wpAnyL (P : Program) (md : Region.Mode) (ops : Array Oper) (Q : Exit → Act → World → Prop) (S : World → Prop) (late : List Nat) : Nat → Array Bool → Act → World → Prop
  | 0, listed, a, w => Region.ready md ops listed = [] ∧ Q .normal a w
  | fuel + 1, listed, a, w =>
    (Region.ready md ops listed = [] → Q .normal a w) ∧
    ∀ i ∈ Region.ready md ops listed, wpOp P ops Q i (fun a' w' => Behind S late i w w' ∧ wpAnyL P md ops Q S late fuel (listed.setIfInBounds i true) a' w') a w

theorem wpAny_of_last : ∀ (fuel : Nat) (listed : Array Bool) (a : Act) (w : World), wpAnyL P md ops Q S late fuel listed a w → wpAny P md ops Q fuel listed a w
  | 0, _, _, _, h => h
  | fuel + 1, _, _, _, h => ⟨h.1, fun i hi => wpOp_mono (fun a' w' h' => wpAny_of_last fuel _ a' w' h'.2) (h.2 i hi)⟩

theorem wpAnyL_first {T : World → Prop} {Inv : Array Bool → Prop} {i : Nat} {oi : Oper} {v : Value} (hi : ops[i]? = some oi) (hsel : ∀ (j : Nat) (o : Oper) cs b, ops[j]? = some o → o.op ≠ .select cs b)
    (hQ : ∀ c a w, Q (.panic c) (a.put oi.dst v) w → Q (.panic c) a w)
    (hInv : ∀ listed j, Inv listed → i ∈ Region.ready md ops listed → j ∈ Region.ready md ops listed → j ≠ i → Inv (listed.setIfInBounds j true))
    (hT : ∀ listed j w w', Inv listed → i ∈ Region.ready md ops listed → j ∈ Region.ready md ops listed → j ≠ i → T w → Behind S late j w w' → T w') :
    ∀ (fuel : Nat) (listed : Array Bool) (a : Act) (w : World),
      (∀ j oj, ops[j]? = some oj → j ≠ i → listed.getD j true = false → (∀ e ∈ oj.after, Region.binds md e = true → e.on ≠ i) → oi.apart ops oj = true) →
      Inv listed → i ∈ Region.ready md ops listed → YieldsIf P ops T oi v a → T w →
      wpAnyL P md ops Q S late fuel (listed.setIfInBounds i true) (a.put oi.dst v) w → wpAnyL P md ops Q S late (fuel + 1) listed a w := by
  intro fuel
  induction fuel with
  | zero =>
    intro listed a w _ hV hr hy hS H
    refine ⟨fun h => (by rw [h] at hr; cases hr), fun j hj => ?_⟩
    by_cases hji : j = i
    · subst hji; exact hy.wpOp hi hS ⟨.inr (.inl rfl), H⟩
    · have := ready_mono hj hji
      rw [H.1] at this
      cases this
  | succ fuel ih =>
    intro listed a w hfree hV hr hy hS H
    refine ⟨fun h => (by rw [h] at hr; cases hr), fun j hj => ?_⟩
    by_cases hji : j = i
    · subst hji; exact hy.wpOp hi hS ⟨.inr (.inl rfl), H⟩
    · have h1 := H.2 j (ready_mono hj hji)
      obtain ⟨hjun, oj, hoj, hall⟩ := mem_ready.1 hj
      have hnot : ∀ e ∈ oj.after, Region.binds md e = true → e.on ≠ i := fun e he hb heq => by
        have h1 := hall e he hb
        have h0 := (mem_ready.1 hr).1
        rw [heq] at h1
        rcases Nat.lt_or_ge i listed.size with h' | h'
        · simp [h'] at h0 h1; rw [h0] at h1; cases h1
        · simp [Array.getElem?_eq_none h'] at h1
      have h2 := wpOp_putIf hoj (hfree j oj hoj hji hjun hnot) (fun cs b => hsel i oi cs b hi) (fun cs b => hsel j oj cs b hoj) hQ hy h1
      have hfree' : ∀ q oq, ops[q]? = some oq → q ≠ i → (listed.setIfInBounds j true).getD q true = false →
          (∀ e ∈ oq.after, Region.binds md e = true → e.on ≠ i) → oi.apart ops oq = true := fun q oq hq hqi hun hno => by
        refine hfree q oq hq hqi ?_ hno
        by_cases hjq : j = q
        · subst hjq; exact hjun
        · simpa [Array.getD_eq_getD_getElem?, Array.getElem?_setIfInBounds, hjq] using hun
      refine wpOp_mono (fun a' w' h3 => ⟨h3.2.1, ih (listed.setIfInBounds j true) a' w' hfree' (hInv listed j hV hr hj hji) (ready_mono hr (Ne.symm hji)) h3.1 (hT listed j w w' hV hr hj hji hS h3.2.1) ?_⟩) h2
      rw [Array.setIfInBounds_comm _ _ hji]
      exact h3.2.2

/-- the operations of bl wait for i, maybe through one another; none of them is listed; the late ones are among them -/
def waits (md : Region.Mode) (ops : Array Oper) (late bl : List Nat) (i : Nat) (listed : Array Bool) : Bool :=
  bl.all (fun b => !(listed.getD b true) && b != i && match ops[b]? with
    | some o => o.after.toList.any fun e => Region.binds md e && (e.on == i || bl.contains e.on)
    | none => false) && late.all bl.contains
theorem waits_no {bl : List Nat} {i : Nat} {listed l : Array Bool} (h : waits md ops late bl i listed = true) (hl : ∀ b ∈ bl, l.getD b true = false) (hr : i ∈ Region.ready md ops l) : ∀ j ∈ Region.ready md ops l, j ∉ bl := by
  intro j hj hb
  obtain ⟨h1, -⟩ := Bool.and_eq_true_iff.mp h
  have h2 := List.all_eq_true.1 h1 j hb
  obtain ⟨h3, h4⟩ := Bool.and_eq_true_iff.mp h2
  obtain ⟨_, oj, hoj, hall⟩ := mem_ready.1 hj
  rw [hoj] at h4
  obtain ⟨e, he, h5⟩ := List.any_eq_true.1 h4
  obtain ⟨h6, h7⟩ := Bool.and_eq_true_iff.mp h5
  have h8 := hall e (by simpa using he) h6
  have key : l.getD e.on true = false := by
    rcases Bool.or_eq_true_iff.mp h7 with h9 | h9
    · have e1 : e.on = i := by simpa using h9
      rw [e1]; exact (mem_ready.1 hr).1
    · exact hl _ (by simpa using h9)
  rcases Nat.lt_or_ge e.on l.size with h' | h'
  · simp [h'] at key h8; rw [key] at h8; cases h8
  · simp [Array.getElem?_eq_none h'] at key

theorem wpAnyL_take {bl : List Nat} {i : Nat} {oi : Oper} {v : Value} {fuel : Nat} {listed : Array Bool} {a : Act} {w : World} (hw : waits md ops late bl i listed = true) (hi : ops[i]? = some oi)
    (hs : Region.noSelect ops = true) (hf : Region.free md ops listed i = true) (hr : (Region.ready md ops listed).contains i = true)
    (hQ : ∀ c a w, Q (.panic c) (a.put oi.dst v) w → Q (.panic c) a w) (hy : YieldsIf P ops S oi v a) (hS : S w)
    (h : wpAnyL P md ops Q S late fuel (listed.setIfInBounds i true) (a.put oi.dst v) w) : wpAnyL P md ops Q S late (fuel + 1) listed a w := by
  have hun : ∀ b ∈ bl, listed.getD b true = false := fun b hb => by
    have h1 := List.all_eq_true.1 (Bool.and_eq_true_iff.mp hw).1 b hb
    have h2 := (Bool.and_eq_true_iff.mp (Bool.and_eq_true_iff.mp h1).1).1
    simpa using h2
  refine wpAnyL_first (T := S) (Inv := fun l => ∀ b ∈ bl, l.getD b true = false) hi (Region.noSelect_spec hs) hQ ?_ ?_ fuel listed a w (Region.free_spec hi hf) hun (by simpa using hr) hy hS h
  · intro l j hV hr' hj hji b hb
    have hjb : j ≠ b := fun e => waits_no hw hV hr' j hj (e ▸ hb)
    simpa [Array.getD_eq_getD_getElem?, Array.getElem?_setIfInBounds, hjb] using hV b hb
  · intro l j w1 w2 hV hr' hj hji hT hb
    rcases hb with h1 | h1 | h1
    · have h2 := List.all_eq_true.1 (Bool.and_eq_true_iff.mp hw).2 j (by simpa using h1)
      exact absurd (by simpa using h2) (waits_no hw hV hr' j hj)
    · rw [h1]; exact hT
    · exact h1
/-- what yields in whatever world -/
theorem wpAnyL_pure {i : Nat} {oi : Oper} {v : Value} {fuel : Nat} {listed : Array Bool} {a : Act} {w : World} (hi : ops[i]? = some oi)
    (hs : Region.noSelect ops = true) (hf : Region.free md ops listed i = true) (hr : (Region.ready md ops listed).contains i = true)
    (hQ : ∀ c a w, Q (.panic c) (a.put oi.dst v) w → Q (.panic c) a w) (hy : YieldsIf P ops (fun _ => True) oi v a)
    (h : wpAnyL P md ops Q S late fuel (listed.setIfInBounds i true) (a.put oi.dst v) w) : wpAnyL P md ops Q S late (fuel + 1) listed a w :=
  wpAnyL_first (T := fun _ => True) (Inv := fun _ => True) hi (Region.noSelect_spec hs) hQ (fun _ _ _ _ _ _ => trivial) (fun _ _ _ _ _ _ _ _ _ _ => trivial) fuel listed a w (Region.free_spec hi hf) trivial (by simpa using hr) hy trivial h

/-- each of the operations comes up next -/
def AllReadyL (P : Program) (md : Region.Mode) (ops : Array Oper) (Q : Exit → Act → World → Prop) (S : World → Prop) (late : List Nat) (fuel : Nat) (listed : Array Bool) (a : Act) (w : World) (rs : List Nat) : Prop :=
  ∀ i ∈ rs, wpOp P ops Q i (fun a' w' => Behind S late i w w' ∧ wpAnyL P md ops Q S late fuel (listed.setIfInBounds i true) a' w') a w
theorem AllReadyL.nil {fuel : Nat} {listed : Array Bool} {a : Act} {w : World} : AllReadyL P md ops Q S late fuel listed a w [] := fun _ h => by cases h
/-- an operation that is not late: S is shown behind it -/
theorem AllReadyL.cons {fuel : Nat} {listed : Array Bool} {a : Act} {w : World} {i : Nat} {o : Oper} {rs : List Nat} (ho : ops[i]? = some o)
    (h : ∀ K' : Act → World → Prop, Shut (∀ a w, S w → (S w → wpAnyL P md ops Q S late fuel (listed.setIfInBounds i true) a w) → K' a w) → if Region.wanted o (yielded ops a.tmps) = true then Oper.wp P o a w K' Q else K' (a.put o.dst undef) w)
    (hs : AllReadyL P md ops Q S late fuel listed a w rs) : AllReadyL P md ops Q S late fuel listed a w (i :: rs) := fun j hj => by
  rcases List.mem_cons.1 hj with rfl | hj
  · exact wpOp_step ho (fun K' hK => h K' (fun a w hS hW => hK a w ⟨.inr (.inr hS), hW hS⟩))
  · exact hs j hj
/-- a late one -/
theorem AllReadyL.consLate {fuel : Nat} {listed : Array Bool} {a : Act} {w : World} {i : Nat} {o : Oper} {rs : List Nat} (hl : late.contains i = true) (ho : ops[i]? = some o)
    (h : ∀ K' : Act → World → Prop, Shut (∀ a w, wpAnyL P md ops Q S late fuel (listed.setIfInBounds i true) a w → K' a w) → if Region.wanted o (yielded ops a.tmps) = true then Oper.wp P o a w K' Q else K' (a.put o.dst undef) w)
    (hs : AllReadyL P md ops Q S late fuel listed a w rs) : AllReadyL P md ops Q S late fuel listed a w (i :: rs) := fun j hj => by
  rcases List.mem_cons.1 hj with rfl | hj
  · exact wpOp_step ho (fun K' hK => h K' (fun a w hW => hK a w ⟨.inl hl, hW⟩))
  · exact hs j hj
theorem wpAnyL_ready {rs : List Nat} {fuel : Nat} {listed : Array Bool} {a : Act} {w : World} (hr : Region.ready md ops listed = rs) (hne : rs ≠ [])
    (h : AllReadyL P md ops Q S late fuel listed a w rs) : wpAnyL P md ops Q S late (fuel + 1) listed a w :=
  ⟨fun h0 => absurd (hr ▸ h0) hne, hr ▸ h⟩
theorem wpAnyL_done {listed : Array Bool} {a : Act} {w : World} (hr : Region.ready md ops listed = []) (h : Q .normal a w) :
    ∀ fuel, wpAnyL P md ops Q S late fuel listed a w
  | 0 => ⟨hr, h⟩
  | _ + 1 => ⟨fun _ => h, by rw [hr]; simp⟩
theorem wp_region_last {id : Nat} {a : Act} {w : World} (hm : P.follows .mixedOrders = true) (hS : S w.drew)
    (h : S w.drew → wpAnyL P .any ops Q S late ops.size (Array.replicate ops.size false) a w.drew) : (Code.region id ops true).wp P Q a w :=
  wp_region_any hm (wpAny_of_last _ _ _ _ (h hS))
end
end Go.Proofs.Ytdcnkebcpaelpaa
/- Layer 14: the reference's Average. -/
namespace Go.Proofs.Ytdcnkebcpaelpaa.T14
open Go.RowKit Go.Sort C6

theorem BoxN.put_self {W : World} {g : Nat} {u v x : Value} {s : Bool} {a : Option Addr} {n c : Nat} {o : Option Addr} {m d : Nat} {q : Rat} {k : Nat} (h : W.heap[g]? = some (.cells #[u, v, x] 40 (0, 0))) (hq : CQ 0 W s a n c o m d q k) :
    BoxN (((W.setCell ⟨g, 0, none⟩ (.bool s)).setCell ⟨g, 1, none⟩ (.slice a n c)).setCell ⟨g, 2, none⟩ (.slice o m d)) g q k :=
  ⟨_, _, _, _, _, _, _, set3_at h _ _ _, CQ.extT (by decide) hq (ExtT.set3 (n := 0) ⟨_, _, _, h⟩ (Nat.zero_le _) _ _ _)⟩
theorem BoxN.put_other {W : World} {g g' : Nat} {u v x y z t : Value} {q : Rat} {k : Nat} (h : W.heap[g]? = some (.cells #[u, v, x] 40 (0, 0))) (hb : BoxN W g' q k) (hne : g' ≠ g) :
    BoxN (((W.setCell ⟨g, 0, none⟩ y).setCell ⟨g, 1, none⟩ z).setCell ⟨g, 2, none⟩ t) g' q k := by
  obtain ⟨s, a, n, c, o, m, d, h1, h2⟩ := hb
  exact ⟨s, a, n, c, o, m, d, (set3_off hne _ _ _).trans h1, CQ.extT (by decide) h2 (ExtT.set3 (n := 0) ⟨_, _, _, h⟩ (Nat.zero_le _) _ _ _)⟩

set_option maxHeartbeats 16000000 in
set_option maxRecDepth 100000 in
theorem rAverage_v (st : Int) (ao : Option Addr) (cap : Nat) (bs : List (Int × Int)) (uo : Option Addr) (uc : Nat) (us : List (Int × Int)) (w : World) (h : RdK w ao cap bs) (k : RdK w uo uc us) (hl : bs.length ≤ 100) (kl : us.length ≤ 100) :
    Calls Try.prog 11 #[.agg #[.int .i64 st, .slice ao bs.length cap], .slice uo us.length uc] w (MkE (uE st bs us) (avgQ st bs us) 11 w) := by
  obtain ⟨n, hn⟩ : ∃ n, n = bs.length := ⟨_, rfl⟩
  obtain ⟨m, hm⟩ : ∃ n, n = us.length := ⟨_, rfl⟩
  rw [← hn, ← hm]
  obtain ⟨W1, hW1⟩ : ∃ W, W = w.alloc (.cells #[.int .i64 st, .slice ao n cap] 24) := ⟨_, rfl⟩
  obtain ⟨W2, hW2⟩ : ∃ W, W = W1.alloc (.cells #[.bool false, .slice none 0 0, .slice none 0 0] 40) := ⟨_, rfl⟩
  have s1 : W1.heap.size = w.heap.size + 1 := by rw [hW1]; simp
  have b1 : Below w.heap.size w W1 := by rw [hW1]; exact below_new w _
  have b2 : Below W1.heap.size W1 W2 := by rw [hW2]; exact below_new W1 _
  have t1 : TfBox W1 w.heap.size st ao n cap := by rw [hW1]; exact TfBox.new w _ _ _ _
  have T2 : Hid (TfBox W2 w.heap.size st ao n cap) := carry t1 b2
  have R2 : Hid (W2.heap[w.heap.size + 1]? = some (.cells #[.bool false, .slice none 0 0, .slice none 0 0] 40 (0, 0))) := by unfold Hid; rw [hW2, ← s1]; exact heap_alloc_new _ _
  have HB2 : Hid (Below w.heap.size w W2) := b1.trans (b2.mono b1.size)
  have HC : Hid (∀ w', Below w.heap.size w w' → Calls Try.prog 26 #[.agg #[.int .i64 st, .slice ao n cap]] w' (ErrIs (tE st bs) w')) := fun w' hb => by
    have := rValidate_v st ao cap bs w' (h.below hb) hl
    rwa [← hn] at this
  have HA : Hid (∀ w', Below w.heap.size w w' → Calls Try.prog 27 #[.slice uo m uc] w' (Says (OkU us) w')) := fun w' hb => by
    have := ruses_v uo uc us w' (k.below hb) kl
    rwa [← hm] at this
  have BL : Hid (tE st bs = 0 → OkU us → ∀ (i : Nat) w', i < us.length → Below w.heap.size w w' → Calls Try.prog 28 #[.agg #[.int .i64 st, .slice ao n cap], .int .i64 (up us i)] w' (MkE 0 ((bil st bs (up us i) : Int) : Rat) 5 w')) := fun he hu i w' hi hb => by
    have h1 := hu.good i hi
    have := rBill_v st ao cap bs (up us i) w' (h.below hb) hl
    have e := aE_zero he h1.1 h1.2.1
    rw [e, show bilQ st bs (up us i) = bil st bs (up us i) from if_pos e] at this
    rwa [← hn] at this
  have RU := Lib.hid k
  have HM := Lib.hid hm
  have HM20 : Hid (OkU us → m ≤ 20) := fun hu => by have := hu.len; omega
  have HVV : Hid (tE st bs = tE st bs) := rfl
  have HE1 : Hid (tE st bs ≠ 0 → uE st bs us = tE st bs) := uE_t
  have HE2 : Hid (tE st bs = 0 → ¬ OkU us → uE st bs us = 143) := uE_u
  have HE3 : Hid (tE st bs = 0 → OkU us → uE st bs us = 0) := uE_ok
  have HQ1 : Hid (uE st bs us = 0 → avgQ st bs us = avgR st bs us) := fun h => if_pos h
  have HQ0 : Hid (uE st bs us ≠ 0 → avgQ st bs us = 0) := fun h => if_neg h
  obtain ⟨er, her⟩ : ∃ er, er = tE st bs := ⟨_, rfl⟩
  have HER := Lib.hid her
  rw [← her] at HC HE1 HE2 HE3
  have S2 : Hid (w.heap.size + 1 < W2.heap.size) := (Array.getElem?_eq_some_iff.1 R2.out).1
  have HU : Hid (W2 = (w.alloc (.cells #[.int .i64 st, .slice ao n cap] 24)).alloc (.cells #[.bool false, .slice none 0 0, .slice none 0 0] 40)) := by unfold Hid; rw [hW2, hW1]
  obtain ⟨u0, u1⟩ := T2.out.cells
  clear h k hn hm hl kl her s1 b1 b2 t1 hW1 hW2
  have rest : ∀ w2, Below W2.heap.size W2 w2 → Hid (w2.heap[w.heap.size + 1]? = some (.cells #[.bool false, .slice none 0 0, .slice none 0 0] 40 (0, 0)) ∧ TfBox w2 w.heap.size st ao n cap ∧ Below w.heap.size w w2) := fun w2 hb => ⟨carry R2.out hb, carry T2.out hb, HB2.out.trans (hb.mono HB2.out.size)⟩
  have REST := Lib.hid rest
  clear rest
  by_cases h0 : er = 0
  · subst h0
    have d0 : ((0 : Int) != 0) = false := rfl
    go_enter Try.func11, Try.ntmps11
    go_wp2_with fail
    rw [← HU.out]
    refine (HC.out _ HB2.out).mono ?_; rintro e w2 ⟨rfl, hB2⟩
    have K2 := REST.out w2 hB2
    have HB22 := Lib.hid hB2
    clear hB2 u0 u1
    go_wp2_with fail
    refine (HA.out _ K2.out.2.2).mono ?_; rintro e w3 ⟨b3, rfl, hb3, hB3⟩
    have hB23 : Below W2.heap.size W2 w3 := keepB hB3 HB22.out (Nat.le_refl _)
    have K3 := REST.out w3 hB23
    have HB33 := Lib.hid hb3
    clear hB3 hB23 hb3 K2
    cases b3 with
    | false =>
      have hno : ¬ OkU us := fun hh => by have := HB33.out.2 hh; cases this
      have he := HE2.out (by trivial) hno
      have hz := Lib.hid (HQ0.out (by rw [he]; decide))
      have HEE := Lib.hid he
      obtain ⟨p0, p1, p2, z0, z1, z2⟩ := at_block K3.out.1
      have R4 := Lib.hid (set3_at K3.out.1 (.bool false) (.slice none 0 0) (.slice none 0 0))
      clear he hno
      go_wp2_with fail
      obtain ⟨o0, o1, o2, -, -, -⟩ := at_block R4.out
      refine bodyPost_ret (v := .tuple #[.agg #[.bool false, .slice none 0 0, .slice none 0 0], .int .i64 143]) (by simp [results, Try.results11, go_sem, o0, o1, o2]) rfl ?_
      exact ⟨_, by rw [HEE.out], by rw [hz.out]; exact isq_zero _ 11 (by omega) (by omega), below3 K3.out.2.2 (by omega) _ _ _⟩
    | true =>
      have hok : OkU us := HB33.out.1 (by trivial)
      have he := HE3.out (by trivial) hok
      have hz := Lib.hid (HQ1.out he)
      have HEE := Lib.hid he
      clear he
      have HOU := Lib.hid hok
      have hm20 : m ≤ 20 := HM20.out hok
      have hv : tE st bs = 0 := HER.out.symm
      have BLX := Lib.hid (BL.out hv hok)
      have HV := Lib.hid hv
      clear hok hv
      obtain ⟨gs, hgs⟩ : ∃ g, g = w3.heap.size := ⟨_, rfl⟩
      obtain ⟨gc, hgc⟩ : ∃ g, g = gs + 1 := ⟨_, rfl⟩
      obtain ⟨W4, hW4⟩ : ∃ W, W = w3.alloc (.cells #[.bool false, .slice none 0 0, .slice none 0 0] 40) := ⟨_, rfl⟩
      obtain ⟨W5, hW5⟩ : ∃ W, W = W4.alloc (.cells #[.bool false, .slice none 0 0, .slice none 0 0] 40) := ⟨_, rfl⟩
      have s4 : W4.heap.size = gc := by rw [hW4, hgc, hgs]; simp
      have b4 : Below w3.heap.size w3 W4 := by rw [hW4]; exact below_new w3 _
      have b5 : Below W4.heap.size W4 W5 := by rw [hW5]; exact below_new W4 _
      have b35 : Below w3.heap.size w3 W5 := b4.trans (b5.mono b4.size)
      have x4 : W4.heap[gs]? = some (.cells #[.bool false, .slice none 0 0, .slice none 0 0] 40 (0, 0)) := by rw [hW4, hgs]; exact heap_alloc_new _ _
      have GS5 : Hid (BoxN W5 gs ((usum st bs us 0 : Int) : Rat) 5) := ⟨_, _, _, _, _, _, _, carry x4 b5, cq_zero 0 W5 5 (by omega) (by omega)⟩
      have GC5 : Hid (BoxN W5 gc ((ucnt us 0 : Int) : Rat) 5) := ⟨_, _, _, _, _, _, _, by rw [hW5, ← s4]; exact heap_alloc_new _ _, cq_zero 0 W5 5 (by omega) (by omega)⟩
      have R5 : Hid (W5.heap[w.heap.size + 1]? = some (.cells #[.bool false, .slice none 0 0, .slice none 0 0] 40 (0, 0))) := carry K3.out.1 b35
      have T5 : Hid (TfBox W5 w.heap.size st ao n cap) := carry K3.out.2.1 b35
      have B5 : Hid (Below w.heap.size w W5) := K3.out.2.2.trans (b35.mono K3.out.2.2.size)
      have HGS : Hid (w.heap.size + 1 < gs ∧ gc = gs + 1 ∧ gc < W5.heap.size) := ⟨by have := (Array.getElem?_eq_some_iff.1 K3.out.1).1; omega, hgc, by have := b5.size; rw [hW5]; simp; omega⟩
      have HW5 : Hid (W5 = (w3.alloc (.cells #[.bool false, .slice none 0 0, .slice none 0 0] 40)).alloc (.cells #[.bool false, .slice none 0 0, .slice none 0 0] 40)) := by unfold Hid; rw [hW5, hW4]
      have HVS := Lib.hid hgs
      have HVC := Lib.hid hgc
      clear hgs hgc hW4 hW5 s4 b4 b5 b35 x4
      go_upto_region 7 with fail
      rw [← HW5.out]
      try rw [← HVS.out]
      try rw [← HVC.out]
      clear HW5 HVS HVC
      go_wp2_with fail
      go_loopw [28] (fun s28 wr => ∃ i : Nat, i ≤ m ∧ s28 = .int .i64 (i : Int) ∧ Hid (BoxN wr gs ((usum st bs us i : Int) : Rat) 5) ∧ Hid (BoxN wr gc ((ucnt us i : Int) : Rat) 5) ∧ Hid (Below gs W5 wr)) (fun s28 _ => m - (intOf s28).toNat)
      case atStart => exact ⟨0, by omega, rfl, GS5.out, GC5.out, Below.refl _ _⟩
      case round =>
        obtain ⟨i, him, rfl, hbs, hbc, hbl⟩ := hrel
        by_cases hlt : i < m
        · have hlt2 : (i : Int) < (m : Int) := by omega
          have hi' : i < us.length := by rw [← HM.out]; exact hlt
          have HWR : Hid (Below w.heap.size w wr) := B5.out.trans (hbl.out.mono (by have := HGS.out; omega))
          obtain ⟨b, o, rfl, hc⟩ := (RU.out.below HWR.out).at (i := i) hi'
          obtain ⟨c0, c1⟩ := hc i hi'
          obtain ⟨u, hu⟩ : ∃ u, u = up us i := ⟨_, rfl⟩
          obtain ⟨p, hp⟩ : ∃ p, p = prc us i := ⟨_, rfl⟩
          change wr.cell? ⟨b, o + i * 2, none⟩ = some (.int .i64 (up us i)) at c0
          change wr.cell? ⟨b, o + i * 2 + 1, none⟩ = some (.int .i64 (prc us i)) at c1
          obtain ⟨A, hA⟩ : ∃ A, A = usum st bs us i := ⟨_, rfl⟩
          obtain ⟨bl, hbl2⟩ : ∃ A, A = bil st bs u := ⟨_, rfl⟩
          obtain ⟨cc, hcc⟩ : ∃ A, A = ucnt us i := ⟨_, rfl⟩
          have BLI : Hid (∀ w', Below w.heap.size w w' → Calls Try.prog 28 #[.agg #[.int .i64 st, .slice ao n cap], .int .i64 u] w' (MkE 0 ((bl : Int) : Rat) 5 w')) := fun w' hb => by
            rw [hbl2, hu]; exact BLX.out i w' hi' hb
          have hum := use_mag (st := st) (bs := bs) HOU.out HV.out hi'
          have hsm := HOU.out.sum_mag (st := st) (bs := bs) HV.out i (by omega)
          have hcm := HOU.out.cnt_mag i (by omega)
          have hgu := HOU.out.good i hi'
          have HNX : Hid (usum st bs us (i + 1) = A + p * bl ∧ ucnt us (i + 1) = cc + p) := by rw [hA, hp, hbl2, hu, hcc]; exact ⟨rfl, rfl⟩
          unfold goodu at hgu
          rw [← hp] at hum c1 hgu
          rw [← hu] at hum c0 hgu
          rw [← hbl2] at hum
          rw [← hA] at hsm hbs
          rw [← hcc] at hcm hbc
          have HPM : Hid (1 ≤ p ∧ p ≤ 1099511627776) := ⟨hgu.2.2.1, hgu.2.2.2⟩
          have HCP : Hid ((p * bl).natAbs < pw 5 ∧ (A + p * bl).natAbs < pw 5 ∧ (cc + p).natAbs < pw 5) := ⟨by rw [pw5]; omega, by rw [pw5]; omega, by rw [pw5]; omega⟩
          obtain ⟨W, hW⟩ : ∃ W, W = wr.alloc (.cells #[.int .i64 u, .int .i64 p] 35) := ⟨_, rfl⟩
          obtain ⟨gu, hgu2⟩ : ∃ B, B = wr.heap.size := ⟨_, rfl⟩
          have bW : Below wr.heap.size wr W := by rw [hW]; exact below_new wr _
          have KB : Hid (W.heap[gu]? = some (.cells #[.int .i64 u, .int .i64 p] 35 (0, 0))) := by unfold Hid; rw [hW, hgu2]; exact heap_alloc_new _ _
          have HSX : Hid (BoxN W gs ((A : Int) : Rat) 5) := hbs.out.below bW
          have HCX : Hid (BoxN W gc ((cc : Int) : Rat) 5) := hbc.out.below bW
          have HBL : Hid (Below gs W5 W) := hbl.out.trans (bW.mono (by have := hbl.out.size; have := HGS.out; omega))
          have HTW : Hid (TfBox W w.heap.size st ao n cap) := (HBL.out.block w.heap.size (by have := HGS.out; omega)).trans T5.out
          have HWW : Hid (Below w.heap.size w W) := HWR.out.trans (bW.mono HWR.out.size)
          have kbw := KB.out
          have kw0 : W.cell? ⟨gu, 0, none⟩ = some (.int .i64 u) := by simp [World.cell?, kbw]
          have kw1 : W.cell? ⟨gu, 1, none⟩ = some (.int .i64 p) := by simp [World.cell?, kbw]
          obtain ⟨l0, l1⟩ := HTW.out.cells
          have HWD := Lib.hid hW
          have HGU := Lib.hid hgu2
          clear hu hp hA hbl2 hcc hum hsm hcm hgu hbs hbc hbl hc bW kbw hW hgu2
          go_upto_region 10 with fail
          rw [← HWD.out]
          try rw [← HGU.out]
          clear HWD HGU c0 c1
          go_wp2_with fail
          refine (BLI.out _ HWW.out).mono ?_
          rintro e u6 ⟨v6, rfl, ⟨s6, a6, n6, c6, o6, m6, d6, rfl, q6⟩, h6⟩
          obtain ⟨U6, hU6⟩ : ∃ W, W = u6.alloc (.cells #[.bool s6, .slice a6 n6 c6, .slice o6 m6 d6] 40) := ⟨_, rfl⟩
          obtain ⟨g6, hg6⟩ : ∃ g, g = u6.heap.size := ⟨_, rfl⟩
          have e6 : Below u6.heap.size u6 U6 := by rw [hU6]; exact below_new u6 _
          have f6 : Below W.heap.size W U6 := h6.trans (e6.mono h6.size)
          have X6 : Hid (U6.heap[g6]? = some (.cells #[.bool s6, .slice a6 n6 c6, .slice o6 m6 d6] 40 (0, 0))) := by unfold Hid; rw [hU6, hg6]; exact heap_alloc_new _ _
          have Q6 : Hid (CQ 0 U6 s6 a6 n6 c6 o6 m6 d6 ((bl : Int) : Rat) 5) := q6.below e6
          have KB6 := carry KB.out f6
          have kw0 : U6.cell? ⟨gu, 0, none⟩ = some (.int .i64 u) := by simp [World.cell?, KB6]
          have kw1 : U6.cell? ⟨gu, 1, none⟩ = some (.int .i64 p) := by simp [World.cell?, KB6]
          have F6 := Lib.hid f6
          have HU6 := Lib.hid hU6
          have HG6 := Lib.hid hg6
          rw [hU6] at kw0 kw1
          clear q6 h6 e6 f6 KB6 hU6 hg6 l0 l1
          go_upto_region 11 with fail
          rw [← HU6.out] at kw0 kw1 ⊢
          try rw [← HG6.out]
          clear HU6 HG6
          go_wp2_with fail
          refine (rFromInt_z p (by have := HPM.out; omega) (by have := HPM.out; omega) _).mono ?_
          rintro e u7 ⟨v7, rfl, ⟨s7, a7, n7, c7, o7, m7, d7, rfl, q7⟩, h7⟩
          obtain ⟨U7, hU7⟩ : ∃ W, W = u7.alloc (.cells #[.bool s7, .slice a7 n7 c7, .slice o7 m7 d7] 40) := ⟨_, rfl⟩
          obtain ⟨g7, hg7⟩ : ∃ g, g = u7.heap.size := ⟨_, rfl⟩
          have e7 : Below u7.heap.size u7 U7 := by rw [hU7]; exact below_new u7 _
          have f7 : Below U6.heap.size U6 U7 := h7.trans (e7.mono h7.size)
          have f67 : Below W.heap.size W U7 := F6.out.trans (f7.mono F6.out.size)
          have X7 : Hid (U7.heap[g7]? = some (.cells #[.bool s7, .slice a7 n7 c7, .slice o7 m7 d7] 40 (0, 0))) := by unfold Hid; rw [hU7, hg7]; exact heap_alloc_new _ _
          have X67 : Hid (U7.heap[g6]? = some (.cells #[.bool s6, .slice a6 n6 c6, .slice o6 m6 d6] 40 (0, 0))) := carry X6.out f7
          have Z7 : Hid (ZV (.agg #[.bool s7, .slice a7 n7 c7, .slice o7 m7 d7]) U7 p) := ⟨_, _, _, _, _, _, _, rfl, q7.below e7⟩
          have Z6 : Hid (ZV (.agg #[.bool s6, .slice a6 n6 c6, .slice o6 m6 d6]) U7 bl) := ⟨_, _, _, _, _, _, _, rfl, Q6.out.below f7⟩
          have HS7 := HSX.out.below f67
          have HC7 : Hid (BoxN U7 gc ((cc : Int) : Rat) 5) := HCX.out.below f67
          have BL7 : Hid (Below gs W5 U7) := HBL.out.trans (f67.mono (by have := HBL.out.size; have := HGS.out; omega))
          obtain ⟨s8, a8, n8, c8, o8, m8, d8, x8, q8⟩ := HS7
          have X8 : Hid (U7.heap[gs]? = some (.cells #[.bool s8, .slice a8 n8 c8, .slice o8 m8 d8] 40 (0, 0))) := x8
          have Z8 : Hid (ZV (.agg #[.bool s8, .slice a8 n8 c8, .slice o8 m8 d8]) U7 A) := ⟨_, _, _, _, _, _, _, rfl, q8⟩
          have HG67 : Hid (gc < g7) := by unfold Hid; have h1 := HBL.out.size; have h2 := F6.out.size; have h3 := h7.size; have h4 := HGS.out; omega
          have HU7 := Lib.hid hU7
          have HG7 := Lib.hid hg7
          clear q7 h7 e7 f7 f67 hU7 hg7 kw0 kw1 X6 Q6 F6 x8 q8 HSX HCX HTW KB
          go_upto_region 12 with fail
          rw [← HU7.out]
          try rw [← HG7.out]
          clear HU7 HG7
          refine wp_region_last (late := [5]) (S := fun w' => Below U7.heap.size U7 w') (by kernel_rfl) ((Below.refl _ _).drew) (fun hH => ?_)
          refine wpAnyL_take (bl := [4, 5]) (i := 0) (v := (.agg #[.bool s8, .slice a8 n8 c8, .slice o8 m8 d8])) (by kernel_rfl) rfl (by kernel_rfl) (by kernel_rfl) (by kernel_rfl) (fun _ _ _ h => h) (Or.inl ⟨by kernel_rfl, ?_⟩) hH ?_
          · intro w1 hB
            obtain ⟨p0, p1, p2, -, -, -⟩ := at_block (carry X8.out hB)
            obtain ⟨r0, r1, r2, -, -, -⟩ := at_block (carry X7.out hB)
            obtain ⟨t0, t1, t2, -, -, -⟩ := at_block (carry X67.out hB)
            go_simp
          change wpAnyL _ _ _ _ _ _ _ _ (Act.put _ (some 42) _) _
          try simp only [Act.put, List.setIfInBounds_toArray, List.set_cons_zero, List.set_cons_succ]
          refine wpAnyL_take (bl := [3, 4, 5]) (i := 1) (v := (.agg #[.bool s7, .slice a7 n7 c7, .slice o7 m7 d7])) (by kernel_rfl) rfl (by kernel_rfl) (by kernel_rfl) (by kernel_rfl) (fun _ _ _ h => h) (Or.inl ⟨by kernel_rfl, ?_⟩) hH ?_
          · intro w1 hB
            obtain ⟨p0, p1, p2, -, -, -⟩ := at_block (carry X8.out hB)
            obtain ⟨r0, r1, r2, -, -, -⟩ := at_block (carry X7.out hB)
            obtain ⟨t0, t1, t2, -, -, -⟩ := at_block (carry X67.out hB)
            go_simp
          change wpAnyL _ _ _ _ _ _ _ _ (Act.put _ (some 43) _) _
          try simp only [Act.put, List.setIfInBounds_toArray, List.set_cons_zero, List.set_cons_succ]
          refine wpAnyL_take (bl := [3, 4, 5]) (i := 2) (v := (.agg #[.bool s6, .slice a6 n6 c6, .slice o6 m6 d6])) (by kernel_rfl) rfl (by kernel_rfl) (by kernel_rfl) (by kernel_rfl) (fun _ _ _ h => h) (Or.inl ⟨by kernel_rfl, ?_⟩) hH ?_
          · intro w1 hB
            obtain ⟨p0, p1, p2, -, -, -⟩ := at_block (carry X8.out hB)
            obtain ⟨r0, r1, r2, -, -, -⟩ := at_block (carry X7.out hB)
            obtain ⟨t0, t1, t2, -, -, -⟩ := at_block (carry X67.out hB)
            go_simp
          change wpAnyL _ _ _ _ _ _ _ _ (Act.put _ (some 44) _) _
          try simp only [Act.put, List.setIfInBounds_toArray, List.set_cons_zero, List.set_cons_succ]
          refine wpAnyL_ready (rs := [3]) (by kernel_rfl) (by simp) ?_
          refine AllReadyL.cons rfl (fun K hK => ?_) AllReadyL.nil
          go_simp
          refine (rMul_z (ZV.below Z7.out hH) (ZV.below Z6.out hH) HCP.out.1).mono ?_
          rintro e V3 ⟨v3', rfl, q3', v3⟩
          replace q3' := Lib.hid q3'
          try go_simp
          refine hK.out _ _ (keepB v3 hH (Nat.le_refl _)) (fun hH3 => ?_)
          clear hK K
          try simp only [Act.put, List.setIfInBounds_toArray, List.set_cons_zero, List.set_cons_succ]
          refine wpAnyL_ready (rs := [4]) (by kernel_rfl) (by simp) ?_
          refine AllReadyL.cons rfl (fun K hK => ?_) AllReadyL.nil
          go_simp
          refine (rAdd_z (ZV.below Z8.out hH3) q3'.out HCP.out.2.1).mono ?_
          rintro e V4 ⟨v4', rfl, ⟨s9, a9, n9, c9, o9, m9, d9, rfl, q9⟩, v4⟩
          replace q9 := Lib.hid q9
          try go_simp
          refine hK.out _ _ (keepB v4 hH3 (Nat.le_refl _)) (fun hH4 => ?_)
          clear hK K
          try simp only [Act.put, List.setIfInBounds_toArray, List.set_cons_zero, List.set_cons_succ]
          refine wpAnyL_ready (rs := [5]) (by kernel_rfl) (by simp) ?_
          refine AllReadyL.consLate (by decide) rfl (fun K hK => ?_) AllReadyL.nil
          go_simp
          have x8w := carry X8.out hH4
          obtain ⟨p0, p1, p2, f0, f1, f2⟩ := at_block x8w
          go_simp
          try go_simp
          refine hK.out _ _ ?_
          clear hK K
          try simp only [Act.put, List.setIfInBounds_toArray, List.set_cons_zero, List.set_cons_succ]
          refine wpAnyL_done (by kernel_rfl) ?_ _
          have LT8 : Hid (gs ≠ gc ∧ gc ≠ gs) := ⟨by have := HGS.out; omega, by have := HGS.out; omega⟩
          obtain ⟨W8, hW8⟩ : ∃ W, W = (((V4.setCell ⟨gs, 0, none⟩ (.bool s9)).setCell ⟨gs, 1, none⟩ (.slice a9 n9 c9)).setCell ⟨gs, 2, none⟩ (.slice o9 m9 d9)) := ⟨_, rfl⟩
          have x8v : V4.heap[gs]? = some (.cells #[.bool s8, .slice a8 n8 c8, .slice o8 m8 d8] 40 (0, 0)) := carry X8.out hH4
          have S9 : Hid (BoxN W8 gs ((usum st bs us (i + 1) : Int) : Rat) 5) := by rw [HNX.out.1, hW8]; exact BoxN.put_self x8v q9.out
          have C9 := BoxN.put_other (y := .bool s9) (z := .slice a9 n9 c9) (t := .slice o9 m9 d9) x8v (HC7.out.below hH4) LT8.out.2
          rw [← hW8] at C9
          obtain ⟨sa, aa, na, ca, oa, ma, da, xa, qa⟩ := C9
          have XA : Hid (W8.heap[gc]? = some (.cells #[.bool sa, .slice aa na ca, .slice oa ma da] 40 (0, 0))) := xa
          have ZA : Hid (ZV (.agg #[.bool sa, .slice aa na ca, .slice oa ma da]) W8 cc) := ⟨_, _, _, _, _, _, _, rfl, qa⟩
          have hgs7 : gs < g7 := by have h3 := HGS.out; have h4 := HG67.out; omega
          have E8 : ExtT 40 0 V4 W8 := by rw [hW8]; exact ExtT.set3 (n := 0) ⟨_, _, _, x8v⟩ (Nat.zero_le _) _ _ _
          have X78 : Hid (W8.heap[g7]? = some (.cells #[.bool s7, .slice a7 n7 c7, .slice o7 m7 d7] 40 (0, 0))) := by
            unfold Hid
            rw [hW8]
            exact (set3_off (by omega) _ _ _).trans (carry X7.out hH4)
          have Z78 : Hid (ZV (.agg #[.bool s7, .slice a7 n7 c7, .slice o7 m7 d7]) W8 p) := IsQ.extT (by decide) (ZV.below Z7.out hH4) E8
          have BL8 : Hid (Below gs W5 W8) := by
            unfold Hid
            rw [hW8]
            exact below3 (BL7.out.trans (hH4.mono (by have := BL7.out.size; have := HGS.out; omega))) (Nat.le_refl _) _ _ _
          rw [← hW8]
          clear hW8 x8v xa qa E8 hgs7 hH hH3 hH4 Z8 X8 Z6 Z7 X7 X67 HC7 BL7
          obtain ⟨y0, y1, y2, z0, z1, z2⟩ := at_block XA.out
          obtain ⟨t0, t1, t2, -, -, -⟩ := at_block X78.out
          go_wp2_with fail
          refine (rAdd_z ZA.out Z78.out HCP.out.2.2).mono ?_
          rintro e V9 ⟨v9, rfl, ⟨sb, ab, nb, cb, ob, mb, db, rfl, qb⟩, hb9⟩
          have xa9 := carry XA.out hb9
          obtain ⟨y0, y1, y2, z0, z1, z2⟩ := at_block xa9
          have CF : Hid (BoxN (((V9.setCell ⟨gc, 0, none⟩ (.bool sb)).setCell ⟨gc, 1, none⟩ (.slice ab nb cb)).setCell ⟨gc, 2, none⟩ (.slice ob mb db)) gc ((ucnt us (i + 1) : Int) : Rat) 5) := by rw [HNX.out.2]; exact BoxN.put_self xa9 qb
          have SF : Hid (BoxN (((V9.setCell ⟨gc, 0, none⟩ (.bool sb)).setCell ⟨gc, 1, none⟩ (.slice ab nb cb)).setCell ⟨gc, 2, none⟩ (.slice ob mb db)) gs ((usum st bs us (i + 1) : Int) : Rat) 5) := BoxN.put_other xa9 (S9.out.below hb9) LT8.out.1
          have BF : Hid (Below gs W5 (((V9.setCell ⟨gc, 0, none⟩ (.bool sb)).setCell ⟨gc, 1, none⟩ (.slice ab nb cb)).setCell ⟨gc, 2, none⟩ (.slice ob mb db))) := below3 (BL8.out.trans (hb9.mono (by have := BL8.out.size; have := HGS.out; omega))) (by have := HGS.out; omega) _ _ _
          clear qb hb9 xa9 t0 t1 t2
          go_wp2_with fail
          go_roundw
          case rel => exact ⟨i + 1, by omega, by simp, SF.out, CF.out, BF.out⟩
          case measure => simp [intOf]; omega
        · obtain rfl : i = m := by omega
          obtain ⟨s8, a8, n8, c8, o8, m8, d8, x8, q8⟩ := hbs.out
          obtain ⟨s9, a9, n9, c9, o9, m9, d9, x9, q9⟩ := hbc.out
          have Q8 := Lib.hid q8
          have Q9 := Lib.hid q9
          have RR : Hid (wr.heap[w.heap.size + 1]? = some (.cells #[.bool false, .slice none 0 0, .slice none 0 0] 40 (0, 0))) := (hbl.out.block _ (by have := HGS.out; omega)).trans R5.out
          have HWR : Hid (Below w.heap.size w wr) := B5.out.trans (hbl.out.mono (by have := HGS.out; omega))
          have hcm := HOU.out.cnt_mag i (by have := HM.out; omega)
          have hnz : ((ucnt us i : Int) : Rat) ≠ 0 := by
            have h1 := HOU.out.pos
            have h2 := HM.out
            intro e
            have : ucnt us i = 0 := by exact_mod_cast e
            omega
          have HNZ := Lib.hid hnz
          have HAV : Hid (avgQ st bs us = ((usum st bs us i : Int) : Rat) / ((ucnt us i : Int) : Rat)) := by unfold Hid; rw [hz.out]; unfold avgR; rw [← HM.out]
          obtain ⟨y0, y1, y2, -, -, -⟩ := at_block x8
          obtain ⟨t0, t1, t2, -, -, -⟩ := at_block x9
          clear q8 q9 hcm hnz hbs hbc hbl x8 x9
          go_wp2_with fail
          refine (rQuo_q _ _ _ _ _ _ _ _ _ _ _ _ _ _ 5 _ _ wr Q8.out.rq Q9.out.rq (by omega) HNZ.out).mono ?_
          rintro e w6 ⟨s, a, nn, c, o, m4, d, rfl, q4, b4⟩
          have r4 := carry RR.out b4
          have FIN : Hid (MkE 0 (avgQ st bs us) 11 w (.returned (.tuple #[.agg #[.bool s, .slice a nn c, .slice o m4 d], .int .i64 0])) (((w6.setCell ⟨w.heap.size + 1, 0, none⟩ (.bool s)).setCell ⟨w.heap.size + 1, 1, none⟩ (.slice a nn c)).setCell ⟨w.heap.size + 1, 2, none⟩ (.slice o m4 d))) := by
            rw [HAV.out]
            exact ⟨_, rfl, ⟨_, _, _, _, _, _, _, rfl, CQ.extT (by decide) (q4.mono (Nat.zero_le _)) (ExtT.set3 (n := 0) ⟨_, _, _, r4⟩ (Nat.zero_le _) _ _ _)⟩, below3 (HWR.out.trans (b4.mono HWR.out.size)) (by omega) _ _ _⟩
          have R4 := Lib.hid (set3_at r4 (.bool s) (.slice a nn c) (.slice o m4 d))
          obtain ⟨p0, p1, p2, z0, z1, z2⟩ := at_block r4
          clear r4 q4 b4 y0 y1 y2 t0 t1 t2
          go_wp2_with fail
          obtain ⟨o0, o1, o2, -, -, -⟩ := at_block R4.out
          refine bodyPost_ret (v := .tuple #[.agg #[.bool s, .slice a nn c, .slice o m4 d], .int .i64 0]) (by simp [results, Try.results11, go_sem, o0, o1, o2]) rfl ?_
          rw [HEE.out]
          exact FIN.out
  · have d0 : (er != 0) = true := bne_iff_ne.2 h0
    have he := HE1.out h0
    have hz := Lib.hid (HQ0.out (by rw [he]; exact h0))
    have HEE := Lib.hid he
    clear h0 he
    go_enter Try.func11, Try.ntmps11
    go_wp2_with fail
    rw [← HU.out]
    refine (HC.out _ HB2.out).mono ?_; rintro e w2 ⟨rfl, hB2⟩
    have K2 := REST.out w2 hB2
    clear hB2 u0 u1
    obtain ⟨p0, p1, p2, z0, z1, z2⟩ := at_block K2.out.1
    have R4 := Lib.hid (set3_at K2.out.1 (.bool false) (.slice none 0 0) (.slice none 0 0))
    go_wp2_with fail
    obtain ⟨o0, o1, o2, -, -, -⟩ := at_block R4.out
    refine bodyPost_ret (v := .tuple #[.agg #[.bool false, .slice none 0 0, .slice none 0 0], .int .i64 er]) (by simp [results, Try.results11, go_sem, o0, o1, o2]) rfl ?_
    exact ⟨_, by rw [HEE.out], by rw [hz.out]; exact isq_zero _ 11 (by omega) (by omega), below3 K2.out.2.2 (by omega) _ _ _⟩
end Go.Proofs.Ytdcnkebcpaelpaa.T14
/- Layer 14: the reference's Index. -/
namespace Go.Proofs.Ytdcnkebcpaelpaa.T14
open Go.RowKit Go.Sort C6

set_option maxHeartbeats 16000000 in
set_option maxRecDepth 100000 in
theorem rIndex_v (st : Int) (ao : Option Addr) (cap : Nat) (bs : List (Int × Int)) (su : Int) (bo : Option Addr) (dap : Nat) (cs : List (Int × Int)) (uo : Option Addr) (uc : Nat) (us : List (Int × Int)) (w : World) (h : RdK w ao cap bs) (h2 : RdK w bo dap cs) (k : RdK w uo uc us) (hl : bs.length ≤ 100) (hl2 : cs.length ≤ 100) (kl : us.length ≤ 100) :
    Calls Try.prog 13 #[.agg #[.int .i64 st, .slice ao bs.length cap], .agg #[.int .i64 su, .slice bo cs.length dap], .slice uo us.length uc] w (MkE (iE st bs su cs us) (ixQ st bs su cs us) 23 w) := by
  obtain ⟨n, hn⟩ : ∃ n, n = bs.length := ⟨_, rfl⟩
  obtain ⟨n2, hn2⟩ : ∃ n, n = cs.length := ⟨_, rfl⟩
  obtain ⟨m, hm⟩ : ∃ n, n = us.length := ⟨_, rfl⟩
  rw [← hn, ← hn2, ← hm]
  obtain ⟨W1, hW1⟩ : ∃ W, W = w.alloc (.cells #[.int .i64 st, .slice ao n cap] 24) := ⟨_, rfl⟩
  obtain ⟨W2, hW2⟩ : ∃ W, W = W1.alloc (.cells #[.int .i64 su, .slice bo n2 dap] 24) := ⟨_, rfl⟩
  obtain ⟨W3, hW3⟩ : ∃ W, W = W2.alloc (.cells #[.bool false, .slice none 0 0, .slice none 0 0] 40) := ⟨_, rfl⟩
  have s1 : W1.heap.size = w.heap.size + 1 := by rw [hW1]; simp
  have s2 : W2.heap.size = w.heap.size + 1 + 1 := by rw [hW2]; simp [s1]
  have b1 : Below w.heap.size w W1 := by rw [hW1]; exact below_new w _
  have b2 : Below W1.heap.size W1 W2 := by rw [hW2]; exact below_new W1 _
  have b3 : Below W2.heap.size W2 W3 := by rw [hW3]; exact below_new W2 _
  have t1 : TfBox W1 w.heap.size st ao n cap := by rw [hW1]; exact TfBox.new w _ _ _ _
  have T3 : Hid (TfBox W3 w.heap.size st ao n cap) := carry (carry t1 b2) b3
  have c2 : TfBox W2 (w.heap.size + 1) su bo n2 dap := by rw [hW2, ← s1]; exact TfBox.new W1 _ _ _ _
  have C3 : Hid (TfBox W3 (w.heap.size + 1) su bo n2 dap) := carry c2 b3
  have R3 : Hid (W3.heap[w.heap.size + 1 + 1]? = some (.cells #[.bool false, .slice none 0 0, .slice none 0 0] 40 (0, 0))) := by unfold Hid; rw [hW3, ← s2]; exact heap_alloc_new _ _
  have HB3 : Hid (Below w.heap.size w W3) := (b1.trans (b2.mono b1.size)).trans (b3.mono (by omega))
  have HC : Hid (∀ w', Below w.heap.size w w' → Calls Try.prog 26 #[.agg #[.int .i64 st, .slice ao n cap]] w' (ErrIs (tE st bs) w')) := fun w' hb => by
    have := rValidate_v st ao cap bs w' (h.below hb) hl
    rwa [← hn] at this
  have HD : Hid (∀ w', Below w.heap.size w w' → Calls Try.prog 26 #[.agg #[.int .i64 su, .slice bo n2 dap]] w' (ErrIs (tE su cs) w')) := fun w' hb => by
    have := rValidate_v su bo dap cs w' (h2.below hb) hl2
    rwa [← hn2] at this
  have HA : Hid (∀ w', Below w.heap.size w w' → Calls Try.prog 11 #[.agg #[.int .i64 st, .slice ao n cap], .slice uo m uc] w' (MkE (uE st bs us) (avgQ st bs us) 11 w')) := fun w' hb => by
    rw [hn, hm]
    exact rAverage_v st ao cap bs uo uc us w' (h.below hb) (k.below hb) hl kl
  have HB : Hid (∀ w', Below w.heap.size w w' → Calls Try.prog 11 #[.agg #[.int .i64 su, .slice bo n2 dap], .slice uo m uc] w' (MkE (uE su cs us) (avgQ su cs us) 11 w')) := fun w' hb => by
    rw [hn2, hm]
    exact rAverage_v su bo dap cs uo uc us w' (h2.below hb) (k.below hb) hl2 kl
  have HQ1 : Hid (iE st bs su cs us = 0 → ixQ st bs su cs us = avgR su cs us / avgR st bs us) := fun h => if_pos h
  have HQ0 : Hid (iE st bs su cs us ≠ 0 → ixQ st bs su cs us = 0) := fun h => if_neg h
  have HSG : Hid (∀ (s : Bool) (a : Option Addr) (nn c : Nat) (b : Option Addr) (mm d : Nat) (w' : World), CQ 0 w' s a nn c b mm d (avgR st bs us) 11 → Calls Try.prog 32 #[.agg #[.bool s, .slice a nn c, .slice b mm d]] w' fun e w2 => e = .returned (.int .i64 (sgn (avgR st bs us))) ∧ Below w'.heap.size w' w2) := fun s a nn c b mm d w' hq => rSign_q _ _ _ _ _ _ _ 11 _ _ hq.rq
  have HU : Hid (W3 = ((w.alloc (.cells #[.int .i64 st, .slice ao n cap] 24)).alloc (.cells #[.int .i64 su, .slice bo n2 dap] 24)).alloc (.cells #[.bool false, .slice none 0 0, .slice none 0 0] 40)) := by unfold Hid; rw [hW3, hW2, hW1]
  obtain ⟨u0, u1⟩ := T3.out.cells
  obtain ⟨sg, hsg⟩ : ∃ z, z = sgn (avgR st bs us) := ⟨_, rfl⟩
  have HSGE := Lib.hid hsg
  rw [← hsg] at HSG
  clear hsg
  obtain ⟨er, her⟩ : ∃ er, er = tE st bs := ⟨_, rfl⟩
  obtain ⟨fu, hfu⟩ : ∃ er, er = tE su cs := ⟨_, rfl⟩
  obtain ⟨ea, hea⟩ : ∃ er, er = uE st bs us := ⟨_, rfl⟩
  obtain ⟨ec, hec⟩ : ∃ er, er = uE su cs us := ⟨_, rfl⟩
  have HER := Lib.hid her
  have HFU := Lib.hid hfu
  have HEA := Lib.hid hea
  have HEC := Lib.hid hec
  rw [← her] at HC
  rw [← hfu] at HD
  rw [← hea] at HA
  rw [← hec] at HB
  clear her hfu hea hec
  clear h h2 k hn hn2 hm hl hl2 kl s1 s2 b1 b2 b3 t1 c2 hW1 hW2 hW3
  have rest : ∀ w2, Below W3.heap.size W3 w2 → Hid (w2.heap[w.heap.size + 1 + 1]? = some (.cells #[.bool false, .slice none 0 0, .slice none 0 0] 40 (0, 0)) ∧ TfBox w2 w.heap.size st ao n cap ∧ TfBox w2 (w.heap.size + 1) su bo n2 dap ∧ Below w.heap.size w w2) := fun w2 hb => ⟨carry R3.out hb, carry T3.out hb, carry C3.out hb, HB3.out.trans (hb.mono HB3.out.size)⟩
  have REST := Lib.hid rest
  clear rest
  by_cases h0 : er = 0
  · subst h0
    by_cases h1 : fu = 0
    · subst h1
      by_cases h2 : ea = 0
      · subst h2
        have hou := uE_uses HEA.out.symm
        have hec : uE su cs us = 0 := uE_ok HFU.out.symm hou
        have HAQ : Hid (avgQ st bs us = avgR st bs us) := if_pos HEA.out.symm
        have HCQ : Hid (avgQ su cs us = avgR su cs us) := if_pos hec
        obtain rfl : ec = 0 := HEC.out.trans hec
        clear hou hec
        have d0 : ((0 : Int) != 0) = false := rfl
        by_cases h3 : avgR st bs us = 0
        · have d3 : (sg == 0) = true := by rw [HSGE.out, sgn_zero_iff.2 h3]; rfl
          have he := iE_z (su := su) (cs := cs) HER.out.symm HEC.out.symm h3
          clear h3
          have hz := Lib.hid (HQ0.out (by rw [he]; decide))
          have HEE := Lib.hid he
          clear he
          go_enter Try.func13, Try.ntmps13
          go_wp2_with fail
          rw [← HU.out]
          refine (HC.out _ HB3.out).mono ?_; rintro e w4 ⟨rfl, b4⟩
          have K4 := REST.out w4 b4
          have B34 := Lib.hid b4
          clear b4 u0 u1
          obtain ⟨u0, u1⟩ := K4.out.2.2.1.cells
          go_wp2_with fail
          refine (HD.out _ K4.out.2.2.2).mono ?_; rintro e w5 ⟨rfl, b5⟩
          have b35 : Below W3.heap.size W3 w5 := keepB b5 B34.out (Nat.le_refl _)
          have K5 := REST.out w5 b35
          have B35 := Lib.hid b35
          clear b5 b35 u0 u1 K4 B34
          obtain ⟨u0, u1⟩ := K5.out.2.1.cells
          go_wp2_with fail
          refine (HA.out _ K5.out.2.2.2).mono ?_; rintro e w6 ⟨v6, rfl, ⟨s6, a6, n6, c6, o6, m6, d6, rfl, q6⟩, b6⟩
          obtain ⟨U6, hU6⟩ : ∃ W, W = w6.alloc (.cells #[.bool s6, .slice a6 n6 c6, .slice o6 m6 d6] 40) := ⟨_, rfl⟩
          obtain ⟨g6, hg6⟩ : ∃ g, g = w6.heap.size := ⟨_, rfl⟩
          have e6 : Below w6.heap.size w6 U6 := by rw [hU6]; exact below_new w6 _
          have X6 : Hid (U6.heap[g6]? = some (.cells #[.bool s6, .slice a6 n6 c6, .slice o6 m6 d6] 40 (0, 0))) := by unfold Hid; rw [hU6, hg6]; exact heap_alloc_new _ _
          have Q6 : Hid (CQ 0 U6 s6 a6 n6 c6 o6 m6 d6 (avgQ st bs us) 11) := q6.below e6
          have bu6 : Below W3.heap.size W3 U6 := keepB (b6.trans (e6.mono b6.size)) B35.out (Nat.le_refl _)
          have K6 := REST.out U6 bu6
          have B36 := Lib.hid bu6
          have HU6 := Lib.hid hU6
          have HG6 := Lib.hid hg6
          have F6 := Lib.hid (b6.trans (e6.mono b6.size))
          clear q6 b6 e6 bu6 hU6 hg6 u0 u1
          go_upto_region 8 with fail
          rw [← HU6.out]
          try rw [← HG6.out]
          clear HU6 HG6
          rw [HAQ.out] at Q6
          obtain ⟨p0, p1, p2, -, -, -⟩ := at_block X6.out
          go_wp2_with fail
          refine (HSG.out _ _ _ _ _ _ _ _ Q6.out).mono ?_; rintro e w7 ⟨rfl, b7⟩
          have b37 : Below W3.heap.size W3 w7 := keepB b7 B36.out (Nat.le_refl _)
          have K7 := REST.out w7 b37
          have B37 := Lib.hid b37
          have X67 : Hid (w7.heap[g6]? = some (.cells #[.bool s6, .slice a6 n6 c6, .slice o6 m6 d6] 40 (0, 0))) := carry X6.out b7
          have Q67 := Lib.hid (Q6.out.below b7)
          clear b7 b37 p0 p1 p2 K6
          obtain ⟨p0, p1, p2, z0, z1, z2⟩ := at_block K7.out.1
          have R4 := Lib.hid (set3_at K7.out.1 (.bool false) (.slice none 0 0) (.slice none 0 0))
          go_wp2_with fail
          obtain ⟨o0, o1, o2', -, -, -⟩ := at_block R4.out
          refine bodyPost_ret (v := .tuple #[.agg #[.bool false, .slice none 0 0, .slice none 0 0], .int .i64 144]) (by simp [results, Try.results13, go_sem, o0, o1, o2']) rfl ?_
          exact ⟨_, by rw [HEE.out], by rw [hz.out]; exact isq_zero _ 23 (by omega) (by omega), below3 K7.out.2.2.2 (by omega) _ _ _⟩
        · have d3 : (sg == 0) = false := beq_eq_false_iff_ne.2 (fun e => h3 (sgn_zero_iff.1 (HSGE.out.symm.trans e)))
          have HNZ := Lib.hid h3
          have he := iE_ok (su := su) (cs := cs) HER.out.symm HEC.out.symm h3
          have hz := Lib.hid (HQ1.out he)
          have HEE := Lib.hid he
          clear he h3
          go_enter Try.func13, Try.ntmps13
          go_wp2_with fail
          rw [← HU.out]
          refine (HC.out _ HB3.out).mono ?_; rintro e w4 ⟨rfl, b4⟩
          have K4 := REST.out w4 b4
          have B34 := Lib.hid b4
          clear b4 u0 u1
          obtain ⟨u0, u1⟩ := K4.out.2.2.1.cells
          go_wp2_with fail
          refine (HD.out _ K4.out.2.2.2).mono ?_; rintro e w5 ⟨rfl, b5⟩
          have b35 : Below W3.heap.size W3 w5 := keepB b5 B34.out (Nat.le_refl _)
          have K5 := REST.out w5 b35
          have B35 := Lib.hid b35
          clear b5 b35 u0 u1 K4 B34
          obtain ⟨u0, u1⟩ := K5.out.2.1.cells
          go_wp2_with fail
          refine (HA.out _ K5.out.2.2.2).mono ?_; rintro e w6 ⟨v6, rfl, ⟨s6, a6, n6, c6, o6, m6, d6, rfl, q6⟩, b6⟩
          obtain ⟨U6, hU6⟩ : ∃ W, W = w6.alloc (.cells #[.bool s6, .slice a6 n6 c6, .slice o6 m6 d6] 40) := ⟨_, rfl⟩
          obtain ⟨g6, hg6⟩ : ∃ g, g = w6.heap.size := ⟨_, rfl⟩
          have e6 : Below w6.heap.size w6 U6 := by rw [hU6]; exact below_new w6 _
          have X6 : Hid (U6.heap[g6]? = some (.cells #[.bool s6, .slice a6 n6 c6, .slice o6 m6 d6] 40 (0, 0))) := by unfold Hid; rw [hU6, hg6]; exact heap_alloc_new _ _
          have Q6 : Hid (CQ 0 U6 s6 a6 n6 c6 o6 m6 d6 (avgQ st bs us) 11) := q6.below e6
          have bu6 : Below W3.heap.size W3 U6 := keepB (b6.trans (e6.mono b6.size)) B35.out (Nat.le_refl _)
          have K6 := REST.out U6 bu6
          have B36 := Lib.hid bu6
          have HU6 := Lib.hid hU6
          have HG6 := Lib.hid hg6
          have F6 := Lib.hid (b6.trans (e6.mono b6.size))
          clear q6 b6 e6 bu6 hU6 hg6 u0 u1
          go_upto_region 8 with fail
          rw [← HU6.out]
          try rw [← HG6.out]
          clear HU6 HG6
          rw [HAQ.out] at Q6
          obtain ⟨p0, p1, p2, -, -, -⟩ := at_block X6.out
          go_wp2_with fail
          refine (HSG.out _ _ _ _ _ _ _ _ Q6.out).mono ?_; rintro e w7 ⟨rfl, b7⟩
          have b37 : Below W3.heap.size W3 w7 := keepB b7 B36.out (Nat.le_refl _)
          have K7 := REST.out w7 b37
          have B37 := Lib.hid b37
          have X67 : Hid (w7.heap[g6]? = some (.cells #[.bool s6, .slice a6 n6 c6, .slice o6 m6 d6] 40 (0, 0))) := carry X6.out b7
          have Q67 := Lib.hid (Q6.out.below b7)
          clear b7 b37 p0 p1 p2 K6
          obtain ⟨u0, u1⟩ := K7.out.2.2.1.cells
          go_wp2_with fail
          refine (HB.out _ K7.out.2.2.2).mono ?_; rintro e w8 ⟨v8, rfl, ⟨s8, a8, n8, c8, o8, m8, d8, rfl, q8⟩, b8⟩
          obtain ⟨U8, hU8⟩ : ∃ W, W = w8.alloc (.cells #[.bool s8, .slice a8 n8 c8, .slice o8 m8 d8] 40) := ⟨_, rfl⟩
          obtain ⟨g8, hg8⟩ : ∃ g, g = w8.heap.size := ⟨_, rfl⟩
          have e8 : Below w8.heap.size w8 U8 := by rw [hU8]; exact below_new w8 _
          have X8 : Hid (U8.heap[g8]? = some (.cells #[.bool s8, .slice a8 n8 c8, .slice o8 m8 d8] 40 (0, 0))) := by unfold Hid; rw [hU8, hg8]; exact heap_alloc_new _ _
          have Q8 : Hid (CQ 0 U8 s8 a8 n8 c8 o8 m8 d8 (avgQ su cs us) 11) := q8.below e8
          have bu8 : Below W3.heap.size W3 U8 := keepB (b8.trans (e8.mono b8.size)) B37.out (Nat.le_refl _)
          have K8 := REST.out U8 bu8
          have B38 := Lib.hid bu8
          have HU8 := Lib.hid hU8
          have HG8 := Lib.hid hg8
          have F8 := Lib.hid (b8.trans (e8.mono b8.size))
          clear q8 b8 e8 bu8 hU8 hg8 u0 u1
          go_upto_region 13 with fail
          rw [← HU8.out]
          try rw [← HG8.out]
          clear HU8 HG8
          rw [HCQ.out] at Q8
          have X68 := Lib.hid (carry X67.out F8.out)
          have Q68 := Lib.hid (Q67.out.below F8.out)
          obtain ⟨p0, p1, p2, -, -, -⟩ := at_block X8.out
          obtain ⟨r0, r1, r2, -, -, -⟩ := at_block X68.out
          go_wp2_with fail
          refine (rQuo_q _ _ _ _ _ _ _ _ _ _ _ _ _ _ 11 _ _ _ Q8.out.rq Q68.out.rq (by omega) HNZ.out).mono ?_
          rintro e w9 ⟨s9, a9, n9, c9, o9, m9, d9, rfl, q9, b9⟩
          have r4 := carry K8.out.1 b9
          have FIN : Hid (MkE 0 (ixQ st bs su cs us) 23 w (.returned (.tuple #[.agg #[.bool s9, .slice a9 n9 c9, .slice o9 m9 d9], .int .i64 0])) (((w9.setCell ⟨w.heap.size + 1 + 1, 0, none⟩ (.bool s9)).setCell ⟨w.heap.size + 1 + 1, 1, none⟩ (.slice a9 n9 c9)).setCell ⟨w.heap.size + 1 + 1, 2, none⟩ (.slice o9 m9 d9))) := by
            rw [hz.out]
            exact ⟨_, rfl, ⟨_, _, _, _, _, _, _, rfl, CQ.extT (by decide) (q9.mono (Nat.zero_le _)) (ExtT.set3 (n := 0) ⟨_, _, _, r4⟩ (Nat.zero_le _) _ _ _)⟩, below3 (K8.out.2.2.2.trans (b9.mono K8.out.2.2.2.size)) (by omega) _ _ _⟩
          have R4 := Lib.hid (set3_at r4 (.bool s9) (.slice a9 n9 c9) (.slice o9 m9 d9))
          obtain ⟨y0, y1, y2, z0, z1, z2⟩ := at_block r4
          clear r4 q9 b9 p0 p1 p2 r0 r1 r2
          go_wp2_with fail
          obtain ⟨o0, o1, o2', -, -, -⟩ := at_block R4.out
          refine bodyPost_ret (v := .tuple #[.agg #[.bool s9, .slice a9 n9 c9, .slice o9 m9 d9], .int .i64 0]) (by simp [results, Try.results13, go_sem, o0, o1, o2']) rfl ?_
          rw [HEE.out]
          exact FIN.out
      · have d2 : (ea != 0) = true := bne_iff_ne.2 h2
        have d0 : ((0 : Int) != 0) = false := rfl
        have hno : ¬ OkU us := fun hu => h2 (HEA.out.trans (uE_ok HER.out.symm hu))
        have he1 : ea = 143 := HEA.out.trans (uE_u HER.out.symm hno)
        have he : iE st bs su cs us = ea := by rw [iE_u (su := su) (cs := cs) HER.out.symm (by rw [uE_u HFU.out.symm hno]; decide), uE_u HFU.out.symm hno, he1]
        clear he1 hno
        have hz := Lib.hid (HQ0.out (by rw [he]; exact h2))
        have HEE := Lib.hid he
        clear he h2
        go_enter Try.func13, Try.ntmps13
        go_wp2_with fail
        rw [← HU.out]
        refine (HC.out _ HB3.out).mono ?_; rintro e w4 ⟨rfl, b4⟩
        have K4 := REST.out w4 b4
        have B34 := Lib.hid b4
        clear b4 u0 u1
        obtain ⟨u0, u1⟩ := K4.out.2.2.1.cells
        go_wp2_with fail
        refine (HD.out _ K4.out.2.2.2).mono ?_; rintro e w5 ⟨rfl, b5⟩
        have b35 : Below W3.heap.size W3 w5 := keepB b5 B34.out (Nat.le_refl _)
        have K5 := REST.out w5 b35
        have B35 := Lib.hid b35
        clear b5 b35 u0 u1 K4 B34
        obtain ⟨u0, u1⟩ := K5.out.2.1.cells
        go_wp2_with fail
        refine (HA.out _ K5.out.2.2.2).mono ?_; rintro e w6 ⟨v6, rfl, ⟨s6, a6, n6, c6, o6, m6, d6, rfl, q6⟩, b6⟩
        obtain ⟨U6, hU6⟩ : ∃ W, W = w6.alloc (.cells #[.bool s6, .slice a6 n6 c6, .slice o6 m6 d6] 40) := ⟨_, rfl⟩
        obtain ⟨g6, hg6⟩ : ∃ g, g = w6.heap.size := ⟨_, rfl⟩
        have e6 : Below w6.heap.size w6 U6 := by rw [hU6]; exact below_new w6 _
        have X6 : Hid (U6.heap[g6]? = some (.cells #[.bool s6, .slice a6 n6 c6, .slice o6 m6 d6] 40 (0, 0))) := by unfold Hid; rw [hU6, hg6]; exact heap_alloc_new _ _
        have Q6 : Hid (CQ 0 U6 s6 a6 n6 c6 o6 m6 d6 (avgQ st bs us) 11) := q6.below e6
        have bu6 : Below W3.heap.size W3 U6 := keepB (b6.trans (e6.mono b6.size)) B35.out (Nat.le_refl _)
        have K6 := REST.out U6 bu6
        have B36 := Lib.hid bu6
        have HU6 := Lib.hid hU6
        have HG6 := Lib.hid hg6
        have F6 := Lib.hid (b6.trans (e6.mono b6.size))
        clear q6 b6 e6 bu6 hU6 hg6 u0 u1
        go_upto_region 8 with fail
        rw [← HU6.out]
        try rw [← HG6.out]
        clear HU6 HG6
        obtain ⟨p0, p1, p2, z0, z1, z2⟩ := at_block K6.out.1
        have R4 := Lib.hid (set3_at K6.out.1 (.bool false) (.slice none 0 0) (.slice none 0 0))
        go_wp2_with fail
        obtain ⟨o0, o1, o2', -, -, -⟩ := at_block R4.out
        refine bodyPost_ret (v := .tuple #[.agg #[.bool false, .slice none 0 0, .slice none 0 0], .int .i64 ea]) (by simp [results, Try.results13, go_sem, o0, o1, o2']) rfl ?_
        exact ⟨_, by rw [HEE.out], by rw [hz.out]; exact isq_zero _ 23 (by omega) (by omega), below3 K6.out.2.2.2 (by omega) _ _ _⟩
    · have d1 : (fu != 0) = true := bne_iff_ne.2 h1
      have d0 : ((0 : Int) != 0) = false := rfl
      have hf : tE su cs ≠ 0 := fun e => h1 (HFU.out.trans e)
      have he : iE st bs su cs us = fu := by rw [iE_u (su := su) (cs := cs) (us := us) HER.out.symm (by rw [uE_t hf]; exact hf), uE_t hf]; exact HFU.out.symm
      clear hf
      have hz := Lib.hid (HQ0.out (by rw [he]; exact h1))
      have HEE := Lib.hid he
      clear he h1
      go_enter Try.func13, Try.ntmps13
      go_wp2_with fail
      rw [← HU.out]
      refine (HC.out _ HB3.out).mono ?_; rintro e w4 ⟨rfl, b4⟩
      have K4 := REST.out w4 b4
      have B34 := Lib.hid b4
      clear b4 u0 u1
      obtain ⟨u0, u1⟩ := K4.out.2.2.1.cells
      go_wp2_with fail
      refine (HD.out _ K4.out.2.2.2).mono ?_; rintro e w5 ⟨rfl, b5⟩
      have b35 : Below W3.heap.size W3 w5 := keepB b5 B34.out (Nat.le_refl _)
      have K5 := REST.out w5 b35
      have B35 := Lib.hid b35
      clear b5 b35 u0 u1 K4 B34
      obtain ⟨p0, p1, p2, z0, z1, z2⟩ := at_block K5.out.1
      have R4 := Lib.hid (set3_at K5.out.1 (.bool false) (.slice none 0 0) (.slice none 0 0))
      go_wp2_with fail
      obtain ⟨o0, o1, o2', -, -, -⟩ := at_block R4.out
      refine bodyPost_ret (v := .tuple #[.agg #[.bool false, .slice none 0 0, .slice none 0 0], .int .i64 fu]) (by simp [results, Try.results13, go_sem, o0, o1, o2']) rfl ?_
      exact ⟨_, by rw [HEE.out], by rw [hz.out]; exact isq_zero _ 23 (by omega) (by omega), below3 K5.out.2.2.2 (by omega) _ _ _⟩
  · have d0 : (er != 0) = true := bne_iff_ne.2 h0
    have he : iE st bs su cs us = er := by rw [iE_t (su := su) (cs := cs) (us := us) (fun e => h0 (HER.out.trans e))]; exact HER.out.symm
    have hz := Lib.hid (HQ0.out (by rw [he]; exact h0))
    have HEE := Lib.hid he
    clear he h0
    go_enter Try.func13, Try.ntmps13
    go_wp2_with fail
    rw [← HU.out]
    refine (HC.out _ HB3.out).mono ?_; rintro e w4 ⟨rfl, b4⟩
    have K4 := REST.out w4 b4
    have B34 := Lib.hid b4
    clear b4 u0 u1
    obtain ⟨p0, p1, p2, z0, z1, z2⟩ := at_block K4.out.1
    have R4 := Lib.hid (set3_at K4.out.1 (.bool false) (.slice none 0 0) (.slice none 0 0))
    go_wp2_with fail
    obtain ⟨o0, o1, o2', -, -, -⟩ := at_block R4.out
    refine bodyPost_ret (v := .tuple #[.agg #[.bool false, .slice none 0 0, .slice none 0 0], .int .i64 er]) (by simp [results, Try.results13, go_sem, o0, o1, o2']) rfl ?_
    exact ⟨_, by rw [HEE.out], by rw [hz.out]; exact isq_zero _ 23 (by omega) (by omega), below3 K4.out.2.2.2 (by omega) _ _ _⟩
end Go.Proofs.Ytdcnkebcpaelpaa.T14
