import Derived.Test.YtdcnkebcpaelpaaTfQ0
import Derived.Test.YtdcnkebcpaelpaaTfS0
import Derived.Test.YtdcnkebcpaelpaaTfX0
import Derived.Test.YtdcnkebcpaelpaaFold6
import Derived.Test.YtdcnkebcpaelpaaTfRz
import Derived.Deep.CutBlock
/- TariffSplits for all inputs: a block divided in two of one price gives an equivalent tariff with the same bills; another price of a unit does not. -/
namespace Go.Proofs.Ytdcnkebcpaelpaa.T14
open Go.RowKit Go.Sort C6

theorem hit_at (a : Int) : ∀ (l : List (Int × Int)) (i : Nat), i < l.length → (∀ j, j < i → up l j ≠ 0 ∧ up l j ≤ a) → (up l i = 0 ∨ a < up l i) → hit a l = some (prc l i)
  | [], i, hi, _, _ => by simp at hi
  | x :: l, 0, _, _, h => by
    show (if x.1 = 0 ∨ a < x.1 then some x.2 else hit a l) = _
    rw [if_pos (show x.1 = 0 ∨ a < x.1 from h)]; rfl
  | x :: l, i + 1, hi, hj, h => by
    show (if x.1 = 0 ∨ a < x.1 then some x.2 else hit a l) = _
    have h0 := hj 0 (by omega)
    have e0 : up (x :: l) 0 = x.1 := rfl
    rw [e0] at h0
    rw [if_neg (by omega)]
    exact hit_at a l i (by simpa using hi) (fun j hj2 => hj (j + 1) (by omega)) h
theorem ins_set {bs : List (Int × Int)} {i : Nat} {cut p q : Int} (hi : i < bs.length) : (ins bs i cut p).set i (cut, q) = ins bs i cut q := by
  have h : (bs.take i).length = i := by rw [List.length_take]; omega
  unfold ins
  rw [List.set_append_right _ _ (by omega), h]
  simp
/-- another price of a unit: not equivalent -/
theorem ins_not {st su : Int} {bs : List (Int × Int)} (h : OkB bs) {i : Nat} {cut q : Int} (hi : i < bs.length) (h1 : prev bs i < cut) (hq : q ≠ prc bs i) : ¬ EqP st bs su (ins bs i cut q) := by
  intro e
  have h2 := e.hit (prev bs i)
  have low : ∀ j, j < i → up bs j ≠ 0 ∧ up bs j ≤ prev bs i := fun j hj => by
    have h3 := h.prev_mono (show j + 1 ≤ i by omega) hi
    have h4 : prev bs (j + 1) = up bs j := rfl
    have h5 := h.zero_iff (show j < bs.length by omega)
    exact ⟨fun e0 => by have := h5.1 e0; omega, by omega⟩
  have a1 := hit_at (prev bs i) bs i hi low (by
    by_cases e0 : i + 1 = bs.length
    · exact .inl (h.last i e0)
    · exact .inr (h.lim i (by omega)).1)
  have a2 := hit_at (prev bs i) (ins bs i cut q) i (by rw [ins_length hi]; omega) (fun j hj => by rw [ins_up hi, if_pos hj]; exact low j hj) (by rw [ins_up hi, if_neg (by omega), if_pos rfl]; exact .inr h1)
  rw [a1, a2, ins_prc hi, if_neg (by omega), if_pos rfl] at h2
  exact hq (Option.some.inj h2).symm
theorem TB.equiv' {w : World} {g g' : Nat} {st su : Int} {a a' : Option Addr} {n c n' c' : Nat} {bs cs : List (Int × Int)} (h : TB w g st a n c bs) (k : TB w g' su a' n' c' cs) : Calls Try.prog 22 #[.agg #[.int .i64 st, .slice a n c], .agg #[.int .i64 su, .slice a' n' c']] w (Says (EqP st bs su cs) w) := by
  have := Equivalent_v st a c bs su a' c' cs w h.rd k.rd (by have := h.max; have := h.len; omega) (by have := k.max; have := k.len; omega)
  rwa [h.len, k.len] at this
theorem says_true {p : Prop} {w w' : World} {e : Ending} (h : Says p w e w') (hp : p) : e = .returned (.bool true) ∧ Below w.heap.size w w' := by
  obtain ⟨b, rfl, hb, hB⟩ := h
  rw [hb.2 hp]; exact ⟨rfl, hB⟩
theorem says_false {p : Prop} {w w' : World} {e : Ending} (h : Says p w e w') (hp : ¬ p) : e = .returned (.bool false) ∧ Below w.heap.size w w' := by
  obtain ⟨b, rfl, hb, hB⟩ := h
  cases b with
  | true => exact absurd (hb.1 rfl) hp
  | false => exact ⟨rfl, hB⟩
theorem TfBox.put1s {w : World} {g : Nat} {st : Int} {a : Option Addr} {n c : Nat} (h : TfBox w g st a n c) (a' : Option Addr) (n' c' : Nat) : TfBox (w.setCell ⟨g, 1, none⟩ (.slice a' n' c')) g st a' n' c' := by
  unfold TfBox at h ⊢
  simp [World.setCell, Array.getElem?_modify, h]

/-- the cells of a slice's head and tail -/
theorem head_cells {w : World} {b c : Nat} {bs : List (Int × Int)} (h : RdK w (some ⟨b, 0, none⟩) c bs) {i : Nat} (hi : i < bs.length) (j : Nat) (u : Value) (hj : (bkv (bs.take i))[j]? = some u) : w.cell? ((⟨b, 0, none⟩ : Addr).add j) = some u := by
  obtain ⟨b', o', e, hc⟩ := h.news (by omega)
  cases e
  refine hc j u ?_
  rw [← bkv_take, List.getElem?_take] at hj
  split at hj
  · exact hj
  · cases hj
theorem tail_cells {w : World} {b c : Nat} {bs : List (Int × Int)} (h : RdK w (some ⟨b, 0, none⟩) c bs) {i : Nat} (hi : i < bs.length) (j : Nat) (u : Value) (hj : (bkv (bs.drop i))[j]? = some u) : w.cell? ((⟨b, i * 2, none⟩ : Addr).add j) = some u := by
  obtain ⟨b', o', e, hc⟩ := h.news (by omega)
  cases e
  have h1 : bkv bs = bkv (bs.take i) ++ bkv (bs.drop i) := by rw [← bkv_append, List.take_append_drop]
  have h2 : (bkv bs)[i * 2 + j]? = some u := by
    rw [h1, List.getElem?_append_right (by rw [bkv_length, List.length_take]; omega), bkv_length, List.length_take, Nat.min_eq_left (by omega), Nat.add_sub_cancel_left]
    exact hj
  have h3 := hc _ _ h2
  rw [Addr.add_lit] at h3 ⊢
  rwa [Nat.zero_add] at h3
theorem lit_two {w : World} {g : Nat} {x y : Int} {t : TypeId} (h : w.heap[g]? = some (.cells #[.int .i64 x, .int .i64 y] t (0, 0))) : ∀ j u, [Value.int .i64 x, Value.int .i64 y][j]? = some u → w.cell? ((⟨g, 0, none⟩ : Addr).add j) = some u := by
  intro j u hj
  rw [Addr.add_lit]
  match j with
  | 0 => cases hj; simp [World.cell?, h]
  | 1 => cases hj; simp [World.cell?, h]
  | j + 2 => cases hj
theorem fin_split {w W9 V : World} {B gx gy b n c n1 c1 : Nat} {st : Int} {a1 : Option Addr} {bs ys : List (Int × Int)} {t : TypeId} (h : Below W9.heap.size W9 V) (TX : TB W9 gx st (some ⟨b, 0, none⟩) n c bs) (Y : TfBox W9 gy st none 0 0) (B9 : Below w.heap.size w W9)
    (o : V.ownsRow W9.heap.size t 2 (.slice a1 n1 c1) n1 (bkv ys)) (hg : gx < gy ∧ b < gy ∧ W9.heap.size = gy + 1) (hb : B < b ∧ b < gx ∧ B < gx ∧ w.heap.size = B) (hl : ys.length = n1) (h10 : n1 ≤ 10) :
    ∃ (a : Option Addr) (c' : Nat), Hid (TB (V.setCell ⟨gy, 1, none⟩ (.slice a1 n1 c1)) gx st (some ⟨b, 0, none⟩) n c bs ∧ TB (V.setCell ⟨gy, 1, none⟩ (.slice a1 n1 c1)) gy st a n1 c' ys) ∧ Hid (Below w.heap.size w (V.setCell ⟨gy, 1, none⟩ (.slice a1 n1 c1))) := by
  have ty : TfBox V gy st none 0 0 := carry Y h
  have gs := gb_set V gy 1 (.slice a1 n1 c1)
  have nn : ∀ {x : Nat}, x ≠ gy → some x ≠ some gy := fun h e => h (Option.some.inj e)
  have o2 := o.kept gs (rowne o (by omega))
  obtain ⟨r, -, -⟩ := rd_of_own o2
  have bv : Below w.heap.size w V := B9.trans (h.mono B9.size)
  exact ⟨a1, c1, ⟨(TX.below h).grown gs (nn (by omega)) (fun _ b' o e => by cases e; exact nn (by omega)), ty.put1s _ _ _, r, hl, h10⟩, bv.grown gs bv.size (fun r e => by have := Option.some.inj e; omega)⟩

set_option maxHeartbeats 32000000 in
set_option maxRecDepth 100000 in
theorem TariffSplits_any (nn : Int) (ao1 : Option Addr) (ts : List Int) (cap1 : Nat) (w : World) (ht : RdZ w ao1 cap1 ts) :
    Calls Try.prog 5 #[.int .i64 nn, .slice ao1 ts.length cap1] w fun e w' => e = .returned (.bool true) ∧ Below w.heap.size w w' := by
  obtain ⟨i0, hi, hz0, hz1, hz2⟩ := info_parts infoBlk
  obtain ⟨tn, htn⟩ : ∃ n, n = ts.length := ⟨_, rfl⟩
  obtain ⟨W1, hW1⟩ : ∃ W, W = w.alloc (.cells #[.slice ao1 tn cap1, .int .i64 0] 29) := ⟨_, rfl⟩
  obtain ⟨B, hB⟩ : ∃ g, g = w.heap.size := ⟨_, rfl⟩
  have s1 : W1.heap.size = B + 1 := by rw [hW1, hB]; simp
  have b1 : Below w.heap.size w W1 := by rw [hW1]; exact below_new w _
  have t1 : Tap W1 B ao1 tn cap1 0 := by rw [hW1, hB]; exact Tap.new w _ _ _
  have z1 : RdZ W1 ao1 cap1 ts := ht.below b1
  have RZ : ∀ w1, W1.grownBy w1 (some B) → RdZ w1 ao1 cap1 ts := fun w1 h1 => by
    refine ⟨z1.1, z1.2.1, ?_⟩
    rcases z1.2.2 with hn | ⟨b, o, e, hc⟩
    · exact .inl hn
    · refine .inr ⟨b, o, e, fun i v hi => ?_⟩
      have hl : 0 < ts.length := by
        have := (List.getElem?_eq_some_iff.1 hi).1
        rw [intz_length] at this
        omega
      exact h1.cell (hc i v hi) (fun q => by have h8 := rdz_lt ht hl b o e; have h9 : b = B := Option.some.inj q; omega)
  have TF : Hid (Calls Try.prog 16 #[.pointer (some ⟨B, 0, none⟩)] W1 (TfPost W1 B ao1 tn cap1 0)) := by
    have h2 := t1
    rw [htn] at h2 ⊢
    exact Tariff_v B ao1 cap1 ts 0 W1 h2 z1 (fun h0 b o e => by have h8 := rdz_lt ht h0 b o e; omega) (by omega)
  have NX : Hid (∀ (w1 : World) (i m : Nat), Tap w1 B ao1 tn cap1 i → W1.grownBy w1 (some B) → i ≤ 1000 → 1 ≤ m → m ≤ 1000000 → ∀ n : Int, n = m → Calls Try.prog 8 #[.pointer (some ⟨B, 0, none⟩), .int .i64 n] w1 (NextPost w1 B ao1 tn cap1 i m)) := by
    intro w1 i m h1 h2 h3 h4 h5 n h6
    rw [htn] at h1 ⊢
    exact Next_v B ao1 cap1 ts i m w1 h1 (RZ w1 h2) (by omega) h4 h5 n h6
  have HB1 := Lib.hid b1
  have HBB := Lib.hid hB
  have S1 := Lib.hid s1
  rw [← htn]
  clear htn ht s1 b1 t1 z1 hB RZ
  go_enter Try.func5, Try.ntmps5
  go_wp2_with fail
  rw [← hW1]
  try rw [← HBB.out]
  clear hW1
  refine (TF.out).mono ?_
  rintro e w3 ⟨st, b, c, bs, j3, rfl, own3, hst0, hst1, hok, hsm, g3, hj3, t3⟩
  obtain ⟨n, hn⟩ : ∃ n, n = bs.length := ⟨_, rfl⟩
  rw [← hn] at own3 ⊢
  obtain ⟨ry, -, oy⟩ := rd_of_own own3
  obtain ⟨W6, hW6⟩ : ∃ W, W = w3.alloc (.cells #[.int .i64 st, .slice (some ⟨b, 0, none⟩) n c] 24) := ⟨_, rfl⟩
  obtain ⟨gx, hgx⟩ : ∃ g, g = w3.heap.size := ⟨_, rfl⟩
  have b4 : Below w3.heap.size w3 W6 := by rw [hW6]; exact below_new w3 _
  have y4 : TfBox W6 gx st (some ⟨b, 0, none⟩) n c := by rw [hW6, hgx]; exact TfBox.new w3 _ _ _ _
  have TX6 : Hid (TB W6 gx st (some ⟨b, 0, none⟩) n c bs) := ⟨y4, ry.below b4, hn.symm, by have := hsm.1; omega⟩
  have B3 : Below w.heap.size w w3 := HB1.out.grown g3 HB1.out.size (fun r e => by have := Option.some.inj e; have := HBB.out; omega)
  have B6 : Hid (Below w.heap.size w W6) := B3.trans (b4.mono B3.size)
  have HOK : Hid (OkB bs) := hok
  have HSM : Hid (SmB bs) := hsm
  have HST : Hid (0 ≤ st ∧ st ≤ 1099511627776) := ⟨hst0, by omega⟩
  have T6 : Hid (Tap W6 B ao1 tn cap1 j3) := t3.keep b4
  have G6 : Hid (W1.grownBy W6 (some B)) := gb_trans g3 (below_gb b4 _)
  have J3 : Hid (j3 ≤ 11) := by unfold Hid; omega
  have HBX : Hid (B < b ∧ b < gx ∧ B < gx ∧ w.heap.size = B) := by
    have h1 : 0 < bs.length := hok.pos
    have h2 : W1.heap.size ≤ b := oy h1 b 0 rfl
    have h3 := ry.lt h1 b 0 rfl
    have h4 := S1.out
    have h5 := HBB.out
    exact ⟨by omega, by rw [hgx]; exact h3, by omega, h5.symm⟩
  have hn1 : 1 ≤ n := by have := hok.pos; omega
  have hn4 : n ≤ 4 := by have := hsm.1; omega
  have hcn : n ≤ c := by have := ry.1; omega
  have HNL : Hid (n = bs.length) := hn
  have HV := Lib.hid hW6
  have HVG := Lib.hid hgx
  obtain ⟨k0, k1⟩ := y4.cells
  clear own3 hst0 hst1 hok hsm g3 hn ry oy b4 y4 B3 hW6 hgx TF HB1 S1 t3 hj3
  go_upto_region 3 with fail
  rw [← HV.out]
  try rw [← HVG.out]
  clear HV HVG
  go_wp2_with fail
  refine (NX.out W6 j3 n T6.out G6.out (by have := J3.out; omega) hn1 (by omega) _ (by simp)).mono ?_
  rintro e w7 ⟨i, rfl, hin, g7, -, t7⟩
  have nb : ∀ {x : Nat}, B < x → some x ≠ some B := fun h e => by have := Option.some.inj e; omega
  have TX7 : Hid (TB w7 gx st (some ⟨b, 0, none⟩) n c bs) := TX6.out.grown g7 (nb HBX.out.2.2.1) (fun _ b' o e => by cases e; exact nb HBX.out.1)
  have B7 : Hid (Below w.heap.size w w7) := B6.out.grown g7 B6.out.size (fun r e => by have := Option.some.inj e; have := HBX.out; omega)
  have T7 := Lib.hid t7
  have G7 : Hid (W1.grownBy w7 (some B)) := gb_trans G6.out g7
  have J7 : Hid (j3 + 1 ≤ 12) := by have := J3.out; unfold Hid; omega
  have hil : i < bs.length := by have := HNL.out; omega
  have HIL := Lib.hid hil
  have hinI : (i : Int) < (n : Int) := by omega
  obtain ⟨lo, hlo⟩ : ∃ z, z = prev bs i := ⟨_, rfl⟩
  have hlob := HOK.out.prev0 i hil
  rw [← hlo] at hlob
  have hlo2 : lo ≤ 240 := by
    rw [hlo]
    cases i with
    | zero => show (0 : Int) ≤ 240; omega
    | succ k => exact HSM.out.2.1 k
  have hlo0 : 0 ≤ lo := hlob.1
  have HLO := Lib.hid hlo
  obtain ⟨k0, k1⟩ := TX7.out.box.cells
  clear g7 t7 TX6 T6 G6 B6 J3 hlob hlo hil
  go_upto_if 28 with fail
  go_cut [8] from 27 to 35 (fun v8 (wx : World) => v8 = .int .i64 lo ∧ wx = w7)
  case first =>
    by_cases h0 : i = 0
    · subst h0
      have e0 : lo = 0 := HLO.out
      go_wp2_with fail
      go_meet
      exact ⟨by rw [e0], rfl⟩
    · obtain ⟨k, hk⟩ : ∃ k, i = k + 1 := ⟨i - 1, by omega⟩
      have hpos : (0 : Int) < (i : Int) := by omega
      have hkI : (i : Int) - 1 = (k : Int) := by omega
      have hkn : (k : Int) < (n : Int) := by omega
      obtain ⟨c0, -⟩ := TX7.out.rd.cells k (by have := HIL.out; omega)
      have e0 : up bs k = lo := by rw [HLO.out, hk]; rfl
      rw [e0, Nat.zero_add] at c0
      clear hk h0 e0
      go_wp2_with fail
      go_meet
      exact ⟨rfl, rfl⟩
  case rest =>
  obtain ⟨rfl, rfl⟩ := hcut
  rename World => w7
  go_wp2_with fail
  refine (NX.out w7 (j3 + 1) 20 T7.out G7.out (by have := J7.out; omega) (by omega) (by omega) _ rfl).mono ?_
  rintro e w8 ⟨r, rfl, hr, g8, -, t8⟩
  have TX8 : Hid (TB w8 gx st (some ⟨b, 0, none⟩) n c bs) := TX7.out.grown g8 (nb HBX.out.2.2.1) (fun _ b' o e => by cases e; exact nb HBX.out.1)
  have B8 : Hid (Below w.heap.size w w8) := B7.out.grown g8 B7.out.size (fun r e => by have := Option.some.inj e; have := HBX.out; omega)
  obtain ⟨ct, hct⟩ : ∃ z, lo + 1 + (r : Int) = z := ⟨_, rfl⟩
  have hctw : IntKind.i64.wrap ct = ct := wrap_mid (by omega) (by omega)
  have hl1w : IntKind.i64.wrap (lo + 1) = lo + 1 := wrap_mid (by omega) (by omega)
  have HCT : Hid (lo < ct ∧ ct ≤ 260) := ⟨by omega, by omega⟩
  obtain ⟨u, hu⟩ : ∃ u, u = up bs i := ⟨_, rfl⟩
  obtain ⟨p, hp⟩ : ∃ p, p = prc bs i := ⟨_, rfl⟩
  obtain ⟨c0, c1⟩ := TX8.out.rd.cells i HIL.out
  rw [← hu, Nat.zero_add] at c0
  rw [← hp, Nat.zero_add] at c1
  have HU := Lib.hid hu
  have HP := Lib.hid hp
  have HPB : Hid (0 ≤ p ∧ p ≤ 30) := ⟨by rw [hp]; exact (HOK.out.price i HIL.out).1, by rw [hp]; exact HSM.out.2.2 i⟩
  obtain ⟨k0', k1'⟩ := TX8.out.box.cells
  clear g8 t8 TX7 T7 G7 J7 B7 k0 k1 hu hp NX hr
  go_upto_region 8 with fail
  clear hct hctw hl1w
  go_cut [57] from 41 to 57 (fun v57 (wx : World) => ∃ bb : Bool, v57 = .bool bb ∧ wx = w8 ∧ Hid (bb = false → u = 0 ∨ ct < u))
  case first =>
    by_cases h0 : u = 0
    · have d0 : (u != 0) = false := by rw [h0]; rfl
      clear h0
      go_wp2_with fail
      go_meet
      exact ⟨false, rfl, rfl, fun _ => .inl (by simpa using d0)⟩
    · have d0 : (u != 0) = true := bne_iff_ne.2 h0
      by_cases h1 : u ≤ ct
      · have d1 : decide (u ≤ ct) = true := decide_eq_true h1
        clear h0 h1
        go_wp2_with fail
        go_meet
        exact ⟨true, rfl, rfl, fun h => by cases h⟩
      · have d1 : decide (u ≤ ct) = false := decide_eq_false h1
        have h2 := Lib.hid (show ct < u by omega)
        clear h0 h1
        go_wp2_with fail
        go_meet
        exact ⟨false, rfl, rfl, fun _ => .inr h2.out⟩
  case rest =>
  obtain ⟨bb, rfl, rfl, hbb⟩ := hcut
  rename World => w8
  cases bb with
  | true =>
    go_wp2_with fail
    refine (awake_v _).mono ?_
    rintro e V ⟨rfl, v⟩
    have FIN := Lib.hid (B8.out.trans (v.mono B8.out.size))
    clear v
    go_wp2_with fail
    go_ret
    exact ⟨rfl, FIN.out⟩
  | false =>
    have HUC : Hid (up bs i = 0 ∨ ct < up bs i) := by rw [← HU.out]; exact hbb.out (by trivial)
    clear hbb
    obtain ⟨gy, hgy⟩ : ∃ g, g = w8.heap.size := ⟨_, rfl⟩
    obtain ⟨W9, hW9⟩ : ∃ W, W = w8.alloc (.cells #[.int .i64 st, .slice none 0 0] 24) := ⟨_, rfl⟩
    have b9 : Below w8.heap.size w8 W9 := by rw [hW9]; exact below_new w8 _
    have Y9 : Hid (TfBox W9 gy st none 0 0) := by unfold Hid; rw [hW9, hgy]; exact TfBox.new w8 _ _ _ _
    have TX9 : Hid (TB W9 gx st (some ⟨b, 0, none⟩) n c bs) := TX8.out.below b9
    have B9 : Hid (Below w.heap.size w W9) := B8.out.trans (b9.mono B8.out.size)
    have HGY : Hid (gx < gy ∧ b < gy ∧ W9.heap.size = gy + 1) := ⟨by rw [hgy]; exact TX8.out.box.lt, by rw [hgy]; have := TX8.out.box.lt; have := HBX.out; omega, by rw [hW9, hgy]; simp⟩
    have HW9 := Lib.hid hW9
    have HVY := Lib.hid hgy
    clear hgy hW9 b9 TX8 B8 c0 c1
    go_upto_region 11 with fail
    rw [← HW9.out]
    try rw [← HVY.out]
    clear HW9 HVY k0' k1'
    obtain ⟨ys, hys⟩ : ∃ y, y = ins bs i ct p := ⟨_, rfl⟩
    have HYS := Lib.hid hys
    clear hys
    have hine : i + (n - i) = n := by omega
    have hic : i ≤ c := by omega
    have hic' : ¬ c < i := by omega
    have hin2 : i ≤ n := by omega
    have hcne : ¬ c = i := by omega
    have hicI : (i : Int) ≤ (c : Int) := by omega
    have hinI2 : (i : Int) ≤ (n : Int) := by omega
    go_cut [] from 62 to 84 (fun (wx : World) => ∃ (a : Option Addr) (c' : Nat), Hid (TB wx gx st (some ⟨b, 0, none⟩) n c bs ∧ TB wx gy st a (n + 1) c' ys) ∧ Hid (Below w.heap.size w wx))
    case first =>
      refine wp_region_last (late := [23]) (S := fun w' => Below W9.heap.size W9 w') (by kernel_rfl) ((Below.refl _ _).drew) (fun hH => ?_)
      refine wpAnyL_pure (i := 0) (v := (.pointer (some ⟨gy, 1, none⟩))) rfl (by kernel_rfl) (by kernel_rfl) (by kernel_rfl) (fun _ _ _ h => h) (Or.inl ⟨by kernel_rfl, ?_⟩) ?_
      · intro w1 hB
        go_simp
      change wpAnyL _ _ _ _ _ _ _ _ (Act.put _ (some 62) _) _
      try simp only [Act.put, List.setIfInBounds_toArray, List.set_cons_zero, List.set_cons_succ]
      refine wpAnyL_take (bl := [6, 16, 21, 22, 23]) (i := 1) (v := (.slice none 0 0)) (by kernel_rfl) rfl (by kernel_rfl) (by kernel_rfl) (by kernel_rfl) (fun _ _ _ h => h) (Or.inl ⟨by kernel_rfl, ?_⟩) hH ?_
      · intro w1 hB
        have tx := TX9.out.below hB
        obtain ⟨x0, x1⟩ := tx.box.cells
        have ty : TfBox w1 gy st none 0 0 := carry Y9.out hB
        obtain ⟨y0, y1⟩ := ty.cells
        obtain ⟨e0, e1⟩ := tx.rd.cells i HIL.out
        rw [← HU.out, Nat.zero_add] at e0
        rw [← HP.out, Nat.zero_add] at e1
        clear tx ty
        go_simp
      change wpAnyL _ _ _ _ _ _ _ _ (Act.put _ (some 63) _) _
      try simp only [Act.put, List.setIfInBounds_toArray, List.set_cons_zero, List.set_cons_succ]
      refine wpAnyL_pure (i := 2) (v := (.pointer (some ⟨gx, 1, none⟩))) rfl (by kernel_rfl) (by kernel_rfl) (by kernel_rfl) (fun _ _ _ h => h) (Or.inl ⟨by kernel_rfl, ?_⟩) ?_
      · intro w1 hB
        go_simp
      change wpAnyL _ _ _ _ _ _ _ _ (Act.put _ (some 64) _) _
      try simp only [Act.put, List.setIfInBounds_toArray, List.set_cons_zero, List.set_cons_succ]
      refine wpAnyL_take (bl := [5, 6, 16, 21, 22, 23]) (i := 3) (v := (.slice (some ⟨b, 0, none⟩) n c)) (by kernel_rfl) rfl (by kernel_rfl) (by kernel_rfl) (by kernel_rfl) (fun _ _ _ h => h) (Or.inl ⟨by kernel_rfl, ?_⟩) hH ?_
      · intro w1 hB
        have tx := TX9.out.below hB
        obtain ⟨x0, x1⟩ := tx.box.cells
        have ty : TfBox w1 gy st none 0 0 := carry Y9.out hB
        obtain ⟨y0, y1⟩ := ty.cells
        obtain ⟨e0, e1⟩ := tx.rd.cells i HIL.out
        rw [← HU.out, Nat.zero_add] at e0
        rw [← HP.out, Nat.zero_add] at e1
        clear tx ty
        go_simp
      change wpAnyL _ _ _ _ _ _ _ _ (Act.put _ (some 65) _) _
      try simp only [Act.put, List.setIfInBounds_toArray, List.set_cons_zero, List.set_cons_succ]
      refine wpAnyL_pure (i := 4) (v := (.int .i64 (i : Int))) rfl (by kernel_rfl) (by kernel_rfl) (by kernel_rfl) (fun _ _ _ h => h) (Or.inl ⟨by kernel_rfl, ?_⟩) ?_
      · intro w1 hB
        go_simp
      change wpAnyL _ _ _ _ _ _ _ _ (Act.put _ (some 66) _) _
      try simp only [Act.put, List.setIfInBounds_toArray, List.set_cons_zero, List.set_cons_succ]
      refine wpAnyL_pure (i := 5) (v := (.slice (some ⟨b, 0, none⟩) i c)) rfl (by kernel_rfl) (by kernel_rfl) (by kernel_rfl) (fun _ _ _ h => h) (Or.inl ⟨by kernel_rfl, ?_⟩) ?_
      · intro w1 hB
        go_simp
      change wpAnyL _ _ _ _ _ _ _ _ (Act.put _ (some 67) _) _
      try simp only [Act.put, List.setIfInBounds_toArray, List.set_cons_zero, List.set_cons_succ]
      refine wpAnyL_pure (i := 7) (v := (.int .i64 ct)) rfl (by kernel_rfl) (by kernel_rfl) (by kernel_rfl) (fun _ _ _ h => h) (Or.inl ⟨by kernel_rfl, ?_⟩) ?_
      · intro w1 hB
        go_simp
      change wpAnyL _ _ _ _ _ _ _ _ (Act.put _ (some 69) _) _
      try simp only [Act.put, List.setIfInBounds_toArray, List.set_cons_zero, List.set_cons_succ]
      refine wpAnyL_pure (i := 8) (v := (.pointer (some ⟨gx, 1, none⟩))) rfl (by kernel_rfl) (by kernel_rfl) (by kernel_rfl) (fun _ _ _ h => h) (Or.inl ⟨by kernel_rfl, ?_⟩) ?_
      · intro w1 hB
        go_simp
      change wpAnyL _ _ _ _ _ _ _ _ (Act.put _ (some 70) _) _
      try simp only [Act.put, List.setIfInBounds_toArray, List.set_cons_zero, List.set_cons_succ]
      refine wpAnyL_take (bl := [11, 12, 13, 14, 15, 16, 21, 22, 23]) (i := 9) (v := (.slice (some ⟨b, 0, none⟩) n c)) (by kernel_rfl) rfl (by kernel_rfl) (by kernel_rfl) (by kernel_rfl) (fun _ _ _ h => h) (Or.inl ⟨by kernel_rfl, ?_⟩) hH ?_
      · intro w1 hB
        have tx := TX9.out.below hB
        obtain ⟨x0, x1⟩ := tx.box.cells
        have ty : TfBox w1 gy st none 0 0 := carry Y9.out hB
        obtain ⟨y0, y1⟩ := ty.cells
        obtain ⟨e0, e1⟩ := tx.rd.cells i HIL.out
        rw [← HU.out, Nat.zero_add] at e0
        rw [← HP.out, Nat.zero_add] at e1
        clear tx ty
        go_simp
      change wpAnyL _ _ _ _ _ _ _ _ (Act.put _ (some 71) _) _
      try simp only [Act.put, List.setIfInBounds_toArray, List.set_cons_zero, List.set_cons_succ]
      refine wpAnyL_pure (i := 10) (v := (.int .i64 (i : Int))) rfl (by kernel_rfl) (by kernel_rfl) (by kernel_rfl) (fun _ _ _ h => h) (Or.inl ⟨by kernel_rfl, ?_⟩) ?_
      · intro w1 hB
        go_simp
      change wpAnyL _ _ _ _ _ _ _ _ (Act.put _ (some 72) _) _
      try simp only [Act.put, List.setIfInBounds_toArray, List.set_cons_zero, List.set_cons_succ]
      refine wpAnyL_pure (i := 11) (v := (.pointer (some ⟨b, i * 2, none⟩))) rfl (by kernel_rfl) (by kernel_rfl) (by kernel_rfl) (fun _ _ _ h => h) (Or.inl ⟨by kernel_rfl, ?_⟩) ?_
      · intro w1 hB
        go_simp
      change wpAnyL _ _ _ _ _ _ _ _ (Act.put _ (some 73) _) _
      try simp only [Act.put, List.setIfInBounds_toArray, List.set_cons_zero, List.set_cons_succ]
      refine wpAnyL_pure (i := 12) (v := (.pointer (some ⟨b, i * 2 + 1, none⟩))) rfl (by kernel_rfl) (by kernel_rfl) (by kernel_rfl) (fun _ _ _ h => h) (Or.inl ⟨by kernel_rfl, ?_⟩) ?_
      · intro w1 hB
        go_simp
      change wpAnyL _ _ _ _ _ _ _ _ (Act.put _ (some 74) _) _
      try simp only [Act.put, List.setIfInBounds_toArray, List.set_cons_zero, List.set_cons_succ]
      refine wpAnyL_take (bl := [14, 15, 16, 21, 22, 23]) (i := 13) (v := (.int .i64 p)) (by kernel_rfl) rfl (by kernel_rfl) (by kernel_rfl) (by kernel_rfl) (fun _ _ _ h => h) (Or.inl ⟨by kernel_rfl, ?_⟩) hH ?_
      · intro w1 hB
        have tx := TX9.out.below hB
        obtain ⟨x0, x1⟩ := tx.box.cells
        have ty : TfBox w1 gy st none 0 0 := carry Y9.out hB
        obtain ⟨y0, y1⟩ := ty.cells
        obtain ⟨e0, e1⟩ := tx.rd.cells i HIL.out
        rw [← HU.out, Nat.zero_add] at e0
        rw [← HP.out, Nat.zero_add] at e1
        clear tx ty
        go_simp
      change wpAnyL _ _ _ _ _ _ _ _ (Act.put _ (some 75) _) _
      try simp only [Act.put, List.setIfInBounds_toArray, List.set_cons_zero, List.set_cons_succ]
      refine wpAnyL_pure (i := 14) (v := (.agg #[.int .i64 ct, .int .i64 p])) rfl (by kernel_rfl) (by kernel_rfl) (by kernel_rfl) (fun _ _ _ h => h) (Or.inl ⟨by kernel_rfl, ?_⟩) ?_
      · intro w1 hB
        go_simp
      change wpAnyL _ _ _ _ _ _ _ _ (Act.put _ (some 76) _) _
      try simp only [Act.put, List.setIfInBounds_toArray, List.set_cons_zero, List.set_cons_succ]
      refine wpAnyL_pure (i := 17) (v := (.pointer (some ⟨gx, 1, none⟩))) rfl (by kernel_rfl) (by kernel_rfl) (by kernel_rfl) (fun _ _ _ h => h) (Or.inl ⟨by kernel_rfl, ?_⟩) ?_
      · intro w1 hB
        go_simp
      change wpAnyL _ _ _ _ _ _ _ _ (Act.put _ (some 79) _) _
      try simp only [Act.put, List.setIfInBounds_toArray, List.set_cons_zero, List.set_cons_succ]
      refine wpAnyL_take (bl := [20, 21, 22, 23]) (i := 18) (v := (.slice (some ⟨b, 0, none⟩) n c)) (by kernel_rfl) rfl (by kernel_rfl) (by kernel_rfl) (by kernel_rfl) (fun _ _ _ h => h) (Or.inl ⟨by kernel_rfl, ?_⟩) hH ?_
      · intro w1 hB
        have tx := TX9.out.below hB
        obtain ⟨x0, x1⟩ := tx.box.cells
        have ty : TfBox w1 gy st none 0 0 := carry Y9.out hB
        obtain ⟨y0, y1⟩ := ty.cells
        obtain ⟨e0, e1⟩ := tx.rd.cells i HIL.out
        rw [← HU.out, Nat.zero_add] at e0
        rw [← HP.out, Nat.zero_add] at e1
        clear tx ty
        go_simp
      change wpAnyL _ _ _ _ _ _ _ _ (Act.put _ (some 80) _) _
      try simp only [Act.put, List.setIfInBounds_toArray, List.set_cons_zero, List.set_cons_succ]
      refine wpAnyL_pure (i := 19) (v := (.int .i64 (i : Int))) rfl (by kernel_rfl) (by kernel_rfl) (by kernel_rfl) (fun _ _ _ h => h) (Or.inl ⟨by kernel_rfl, ?_⟩) ?_
      · intro w1 hB
        go_simp
      change wpAnyL _ _ _ _ _ _ _ _ (Act.put _ (some 81) _) _
      try simp only [Act.put, List.setIfInBounds_toArray, List.set_cons_zero, List.set_cons_succ]
      refine wpAnyL_pure (i := 20) (v := (.slice (some ⟨b, i * 2, none⟩) (n - i) (c - i))) rfl (by kernel_rfl) (by kernel_rfl) (by kernel_rfl) (fun _ _ _ h => h) (Or.inl ⟨by kernel_rfl, ?_⟩) ?_
      · intro w1 hB
        go_simp
      change wpAnyL _ _ _ _ _ _ _ _ (Act.put _ (some 82) _) _
      try simp only [Act.put, List.setIfInBounds_toArray, List.set_cons_zero, List.set_cons_succ]
      refine wpAnyL_ready (rs := [6, 15]) (by kernel_rfl) (by simp) ?_
      refine AllReadyL.cons rfl (fun K hK => ?_) (AllReadyL.cons rfl (fun K hK => ?_) AllReadyL.nil)
      · refine wp_append_own _ (.tmp 63) (.tmp 67) 22 (by rfl) W9.heap.size 51 i0 (.agg #[.int .i64 0, .int .i64 0]) 2 16 Try.underlying22 hi hz0 hz1 hz2 rfl (by decide) (.slice none 0 0) 0 [] (by rfl) (World.ownsRow_nil _ _ _ _) ⟨b, 0, none⟩ i c (bkv (bs.take i)) (by rfl) (by rw [bkv_length, List.length_take]; have := HIL.out; omega) (fun j u hj => head_cells (TX9.out.below hH).rd HIL.out j u hj) (bkv_one' _) (by unfold maxLen; omega) (by omega) (Below.size hH) ?_
        intro v6 V6 hown6 hgr6 _
        obtain ⟨a6, c6, rfl⟩ := of_row_k hown6
        rw [Nat.zero_add] at hown6
        rw [List.nil_append] at hown6
        replace hown6 := Lib.hid hown6
        have hg6 : Below W9.heap.size W9 V6 := (hH).grown hgr6 (Below.size hH) (fun k e => by simp [Value.ownBlock] at e)
        try go_simp
        refine hK.out _ _ hg6 (fun hH6 => ?_)
        clear hK K
        try simp only [Act.put, List.setIfInBounds_toArray, List.set_cons_zero, List.set_cons_succ]
        refine wpAnyL_ready (rs := [15]) (by kernel_rfl) (by simp) ?_
        refine AllReadyL.cons rfl (fun K hK => ?_) AllReadyL.nil
        go_simp
        obtain ⟨V15, hV15⟩ : ∃ W, W = V6.alloc (.cells #[.int .i64 ct, .int .i64 p] 51) := ⟨_, rfl⟩
        obtain ⟨gl, hgl⟩ : ∃ g, g = V6.heap.size := ⟨_, rfl⟩
        have k15 : Hid (V15.heap[gl]? = some (.cells #[.int .i64 ct, .int .i64 p] 51 (0, 0))) := by unfold Hid; rw [hV15, hgl]; exact heap_alloc_new V6 (.cells #[.int .i64 ct, .int .i64 p] 51)
        have b15 : Below W9.heap.size W9 V15 := by rw [hV15]; exact Below.alloc hH6 (Below.size hH6) _
        have hown6' : Hid (V15.ownsRow W9.heap.size 51 2 (.slice a6 i c6) i (bkv (bs.take i))) := by unfold Hid; rw [hV15]; exact hown6.out.alloc _
        try rw [← hV15]
        try rw [← hgl]
        try rw [← hV15]
        clear hV15 hgl
        try go_simp
        refine hK.out _ _ b15 (fun hH15 => ?_)
        clear hK K
        try simp only [Act.put, List.setIfInBounds_toArray, List.set_cons_zero, List.set_cons_succ]
        refine wpAnyL_ready (rs := [16]) (by kernel_rfl) (by simp) ?_
        refine AllReadyL.cons rfl (fun K hK => ?_) AllReadyL.nil
        refine wp_append_own _ (.tmp 68) (.tmp 77) 22 (by rfl) W9.heap.size 51 i0 (.agg #[.int .i64 0, .int .i64 0]) 2 16 Try.underlying22 hi hz0 hz1 hz2 rfl (by decide) (.slice a6 i c6) i (bkv (bs.take i)) (by rfl) hown6'.out ⟨gl, 0, none⟩ 1 1 [.int .i64 ct, .int .i64 p] (by rfl) rfl (lit_two k15.out) (bkv_one' [(ct, p)]) (by unfold maxLen; omega) (by omega) (Below.size hH15) ?_
        intro v16 V16 hown16 hgr16 _
        obtain ⟨a16, c16, rfl⟩ := of_row_k hown16
        have ho16 : Hid (V16.ownsRow W9.heap.size 51 2 (.slice a16 (i + 1) c16) (i + 1) (bkv (bs.take i ++ [(ct, p)]))) := by unfold Hid; rw [bkv_append]; exact hown16
        have hg16 : Below W9.heap.size W9 V16 := (hH15).grown hgr16 (Below.size hH15) (fun k e => (hown6'.out.lt k e).1)
        try go_simp
        refine hK.out _ _ hg16 (fun hH16 => ?_)
        clear hK K
        try simp only [Act.put, List.setIfInBounds_toArray, List.set_cons_zero, List.set_cons_succ]
        refine wpAnyL_ready (rs := [21]) (by kernel_rfl) (by simp) ?_
        refine AllReadyL.cons rfl (fun K hK => ?_) AllReadyL.nil
        refine wp_append_own _ (.tmp 78) (.tmp 82) 22 (by rfl) W9.heap.size 51 i0 (.agg #[.int .i64 0, .int .i64 0]) 2 16 Try.underlying22 hi hz0 hz1 hz2 rfl (by decide) (.slice a16 (i + 1) c16) (i + 1) (bkv (bs.take i ++ [(ct, p)])) (by rfl) ho16.out ⟨b, i * 2, none⟩ (n - i) (c - i) (bkv (bs.drop i)) (by rfl) (by rw [bkv_length, List.length_drop]; have := HNL.out; omega) (fun j u hj => tail_cells (TX9.out.below hH16).rd HIL.out j u hj) (bkv_one' _) (by unfold maxLen; omega) (by omega) (Below.size hH16) ?_
        intro v21 V21 hown21 hgr21 _
        obtain ⟨a21, c21, rfl⟩ := of_row_k hown21
        have e21 : i + 1 + (n - i) = n + 1 := by omega
        rw [e21] at hown21
        try rw [e21]
        have ho21 : Hid (V21.ownsRow W9.heap.size 51 2 (.slice a21 (n + 1) c21) (n + 1) (bkv ys)) := by unfold Hid; rw [HYS.out]; unfold ins; rw [show bs.take i ++ (ct, p) :: bs.drop i = bs.take i ++ [(ct, p)] ++ bs.drop i by simp, bkv_append]; exact hown21
        have hg21 : Below W9.heap.size W9 V21 := (hH16).grown hgr21 (Below.size hH16) (fun k e => (ho16.out.lt k e).1)
        try go_simp
        refine hK.out _ _ hg21 (fun hH21 => ?_)
        clear hK K
        try simp only [Act.put, List.setIfInBounds_toArray, List.set_cons_zero, List.set_cons_succ]
        refine wpAnyL_pure (i := 22) (v := (.pointer (some ⟨gy, 1, none⟩))) rfl (by kernel_rfl) (by kernel_rfl) (by kernel_rfl) (fun _ _ _ h => h) (Or.inl ⟨by kernel_rfl, ?_⟩) ?_
        · intro w1 hB
          go_simp
        change wpAnyL _ _ _ _ _ _ _ _ (Act.put _ (some 84) _) _
        try simp only [Act.put, List.setIfInBounds_toArray, List.set_cons_zero, List.set_cons_succ]
        refine wpAnyL_ready (rs := [23]) (by kernel_rfl) (by simp) ?_
        refine AllReadyL.consLate (by decide) rfl (fun K hK => ?_) AllReadyL.nil
        go_simp
        have ty : TfBox V21 gy st none 0 0 := carry Y9.out hH21
        obtain ⟨y0, y1⟩ := ty.cells
        have yf := ty.fz 1
        go_simp
        try go_simp
        refine hK.out _ _ ?_
        clear hK K
        try simp only [Act.put, List.setIfInBounds_toArray, List.set_cons_zero, List.set_cons_succ]
        refine wpAnyL_done (by kernel_rfl) ?_ _
        go_wp2_with fail
        go_meet
        exact fin_split hH21 TX9.out Y9.out B9.out ho21.out HGY.out HBX.out (by rw [HYS.out, ins_length HIL.out]; have := HNL.out; omega) (by omega)
      · go_simp
        obtain ⟨V15, hV15⟩ : ∃ W, W = (W9.alloc (.cells #[.int .i64 ct, .int .i64 p] 51)).drew := ⟨_, rfl⟩
        obtain ⟨gl, hgl⟩ : ∃ g, g = W9.heap.size := ⟨_, rfl⟩
        have k15 : Hid (V15.heap[gl]? = some (.cells #[.int .i64 ct, .int .i64 p] 51 (0, 0))) := by unfold Hid; rw [hV15, hgl]; exact heap_alloc_new W9 (.cells #[.int .i64 ct, .int .i64 p] 51)
        have b15 : Below W9.heap.size W9 V15 := by rw [hV15]; exact (below_new W9 _).drew
        try rw [← hV15]
        try rw [← hgl]
        try rw [← hV15]
        clear hV15 hgl
        try go_simp
        refine hK.out _ _ b15 (fun hH15 => ?_)
        clear hK K
        try simp only [Act.put, List.setIfInBounds_toArray, List.set_cons_zero, List.set_cons_succ]
        refine wpAnyL_ready (rs := [6]) (by kernel_rfl) (by simp) ?_
        refine AllReadyL.cons rfl (fun K hK => ?_) AllReadyL.nil
        refine wp_append_own _ (.tmp 63) (.tmp 67) 22 (by rfl) W9.heap.size 51 i0 (.agg #[.int .i64 0, .int .i64 0]) 2 16 Try.underlying22 hi hz0 hz1 hz2 rfl (by decide) (.slice none 0 0) 0 [] (by rfl) (World.ownsRow_nil _ _ _ _) ⟨b, 0, none⟩ i c (bkv (bs.take i)) (by rfl) (by rw [bkv_length, List.length_take]; have := HIL.out; omega) (fun j u hj => head_cells (TX9.out.below hH15).rd HIL.out j u hj) (bkv_one' _) (by unfold maxLen; omega) (by omega) (Below.size hH15) ?_
        intro v6 V6 hown6 hgr6 _
        obtain ⟨a6, c6, rfl⟩ := of_row_k hown6
        rw [Nat.zero_add] at hown6
        rw [List.nil_append] at hown6
        replace hown6 := Lib.hid hown6
        have l15 : Hid (V6.heap[gl]? = some (.cells #[.int .i64 ct, .int .i64 p] 51 (0, 0))) := (hgr6.block gl (Array.getElem?_eq_some_iff.1 k15.out).1 (fun e => by simp [Value.ownBlock] at e)).trans k15.out
        have hg6 : Below W9.heap.size W9 V6 := (hH15).grown hgr6 (Below.size hH15) (fun k e => by simp [Value.ownBlock] at e)
        try go_simp
        refine hK.out _ _ hg6 (fun hH6 => ?_)
        clear hK K
        try simp only [Act.put, List.setIfInBounds_toArray, List.set_cons_zero, List.set_cons_succ]
        refine wpAnyL_ready (rs := [16]) (by kernel_rfl) (by simp) ?_
        refine AllReadyL.cons rfl (fun K hK => ?_) AllReadyL.nil
        refine wp_append_own _ (.tmp 68) (.tmp 77) 22 (by rfl) W9.heap.size 51 i0 (.agg #[.int .i64 0, .int .i64 0]) 2 16 Try.underlying22 hi hz0 hz1 hz2 rfl (by decide) (.slice a6 i c6) i (bkv (bs.take i)) (by rfl) hown6.out ⟨gl, 0, none⟩ 1 1 [.int .i64 ct, .int .i64 p] (by rfl) rfl (lit_two l15.out) (bkv_one' [(ct, p)]) (by unfold maxLen; omega) (by omega) (Below.size hH6) ?_
        intro v16 V16 hown16 hgr16 _
        obtain ⟨a16, c16, rfl⟩ := of_row_k hown16
        have ho16 : Hid (V16.ownsRow W9.heap.size 51 2 (.slice a16 (i + 1) c16) (i + 1) (bkv (bs.take i ++ [(ct, p)]))) := by unfold Hid; rw [bkv_append]; exact hown16
        have hg16 : Below W9.heap.size W9 V16 := (hH6).grown hgr16 (Below.size hH6) (fun k e => (hown6.out.lt k e).1)
        try go_simp
        refine hK.out _ _ hg16 (fun hH16 => ?_)
        clear hK K
        try simp only [Act.put, List.setIfInBounds_toArray, List.set_cons_zero, List.set_cons_succ]
        refine wpAnyL_ready (rs := [21]) (by kernel_rfl) (by simp) ?_
        refine AllReadyL.cons rfl (fun K hK => ?_) AllReadyL.nil
        refine wp_append_own _ (.tmp 78) (.tmp 82) 22 (by rfl) W9.heap.size 51 i0 (.agg #[.int .i64 0, .int .i64 0]) 2 16 Try.underlying22 hi hz0 hz1 hz2 rfl (by decide) (.slice a16 (i + 1) c16) (i + 1) (bkv (bs.take i ++ [(ct, p)])) (by rfl) ho16.out ⟨b, i * 2, none⟩ (n - i) (c - i) (bkv (bs.drop i)) (by rfl) (by rw [bkv_length, List.length_drop]; have := HNL.out; omega) (fun j u hj => tail_cells (TX9.out.below hH16).rd HIL.out j u hj) (bkv_one' _) (by unfold maxLen; omega) (by omega) (Below.size hH16) ?_
        intro v21 V21 hown21 hgr21 _
        obtain ⟨a21, c21, rfl⟩ := of_row_k hown21
        have e21 : i + 1 + (n - i) = n + 1 := by omega
        rw [e21] at hown21
        try rw [e21]
        have ho21 : Hid (V21.ownsRow W9.heap.size 51 2 (.slice a21 (n + 1) c21) (n + 1) (bkv ys)) := by unfold Hid; rw [HYS.out]; unfold ins; rw [show bs.take i ++ (ct, p) :: bs.drop i = bs.take i ++ [(ct, p)] ++ bs.drop i by simp, bkv_append]; exact hown21
        have hg21 : Below W9.heap.size W9 V21 := (hH16).grown hgr21 (Below.size hH16) (fun k e => (ho16.out.lt k e).1)
        try go_simp
        refine hK.out _ _ hg21 (fun hH21 => ?_)
        clear hK K
        try simp only [Act.put, List.setIfInBounds_toArray, List.set_cons_zero, List.set_cons_succ]
        refine wpAnyL_pure (i := 22) (v := (.pointer (some ⟨gy, 1, none⟩))) rfl (by kernel_rfl) (by kernel_rfl) (by kernel_rfl) (fun _ _ _ h => h) (Or.inl ⟨by kernel_rfl, ?_⟩) ?_
        · intro w1 hB
          go_simp
        change wpAnyL _ _ _ _ _ _ _ _ (Act.put _ (some 84) _) _
        try simp only [Act.put, List.setIfInBounds_toArray, List.set_cons_zero, List.set_cons_succ]
        refine wpAnyL_ready (rs := [23]) (by kernel_rfl) (by simp) ?_
        refine AllReadyL.consLate (by decide) rfl (fun K hK => ?_) AllReadyL.nil
        go_simp
        have ty : TfBox V21 gy st none 0 0 := carry Y9.out hH21
        obtain ⟨y0, y1⟩ := ty.cells
        have yf := ty.fz 1
        go_simp
        try go_simp
        refine hK.out _ _ ?_
        clear hK K
        try simp only [Act.put, List.setIfInBounds_toArray, List.set_cons_zero, List.set_cons_succ]
        refine wpAnyL_done (by kernel_rfl) ?_ _
        go_wp2_with fail
        go_meet
        exact fin_split hH21 TX9.out Y9.out B9.out ho21.out HGY.out HBX.out (by rw [HYS.out, ins_length HIL.out]; have := HNL.out; omega) (by omega)
    case rest =>
    obtain ⟨ay, cy, hxy, hbw⟩ := hcut
    rename World => W10
    have KX : Hid (TB W10 gx st (some ⟨b, 0, none⟩) n c bs) := hxy.out.1
    have KY : Hid (TB W10 gy st ay (n + 1) cy ys) := hxy.out.2
    have B10 : Hid (Below w.heap.size w W10) := hbw.out
    have hpp : prc bs i = p := HP.out.symm
    have hll : bs.length + 1 ≤ 8 := by have := HNL.out; omega
    have hpv : prev bs i < ct := by rw [← HLO.out]; exact HCT.out.1
    have hctm : ct ≤ 1099511627776 := by have := HCT.out; omega
    have hpb := HPB.out
    have HOY : OkB ys := by rw [HYS.out]; exact ins_ok HOK.out HIL.out hll ⟨by omega, by omega⟩ hpv hctm HUC.out
    have htx := tE_zero HST.out.1 HST.out.2 HOK.out
    have hty := tE_zero HST.out.1 HST.out.2 HOY
    have hjn : jn ys ys.length = jn bs bs.length := by rw [HYS.out, ← hpp]; exact ins_same HIL.out
    have HE1 : Hid (EqP st bs st ys) := ⟨htx, hty, rfl, hjn.symm⟩
    have HE2 : Hid (EqP st ys st bs) := ⟨hty, htx, rfl, hjn⟩
    obtain ⟨q, hq⟩ : ∃ q, q = p + 1 := ⟨_, rfl⟩
    have hqw : IntKind.i64.wrap (p + 1) = q := by rw [hq]; exact wrap_mid (by omega) (by omega)
    obtain ⟨zs, hzs⟩ : ∃ z, z = ins bs i ct q := ⟨_, rfl⟩
    have HE3 : Hid (¬ EqP st bs st zs) := by unfold Hid; rw [hzs]; exact ins_not HOK.out HIL.out hpv (by rw [hpp]; omega)
    have HZS : Hid (ys.set i (ct, q) = zs) := by unfold Hid; rw [HYS.out, hzs]; exact ins_set HIL.out
    have HYG : Hid (ys.getD i (0, 0) = (ct, p) ∧ ys.length = n + 1) := by
      unfold Hid; rw [HYS.out, ins_getD HIL.out, if_neg (by omega), if_pos rfl]
      exact ⟨rfl, by rw [ins_length HIL.out]; have := HNL.out; omega⟩
    have HBL : Hid (∀ a : Nat, bil st ys a = bil st bs a) := by unfold Hid; rw [HYS.out, ← hpp]; exact ins_bil HOK.out HIL.out hll hpv hctm HUC.out
    have HAE : ∀ (l : List (Int × Int)), OkB l → ∀ a : Int, 0 ≤ a → a ≤ 1099511627776 → aE st l a = 0 ∧ bilQ st l a = bil st l a := fun l hl a h0 h1 => by
      have h := aE_zero (tE_zero HST.out.1 HST.out.2 hl) h0 h1
      exact ⟨h, if_pos h⟩
    obtain ⟨k0, k1⟩ := KX.out.box.cells
    obtain ⟨j0, j1⟩ := KY.out.box.cells
    go_wp2_with fail
    refine (Fold_v nn 400 (by omega) (by omega) W10 _ rfl).mono ?_
    rintro e wf ⟨k, rfl, hk, rfl⟩
    obtain ⟨z, hz⟩ : ∃ z, z = bil st bs (k : Int) := ⟨_, rfl⟩
    have BX : Hid (∀ w', Below W10.heap.size W10 w' → Calls Try.prog 21 #[.agg #[.int .i64 st, .slice (some ⟨b, 0, none⟩) n c], .int .i64 (k : Int)] w' (MkE 0 ((z : Int) : Rat) 5 w')) := fun w' hb => by
      have h := (KX.out.below hb).bill (k : Int)
      rw [(HAE bs HOK.out k (by omega) (by omega)).1, (HAE bs HOK.out k (by omega) (by omega)).2] at h
      rw [hz]; exact h
    have BY : Hid (∀ w', Below W10.heap.size W10 w' → Calls Try.prog 21 #[.agg #[.int .i64 st, .slice ay (n + 1) cy], .int .i64 (k : Int)] w' (MkE 0 ((z : Int) : Rat) 5 w')) := fun w' hb => by
      have h := (KY.out.below hb).bill (k : Int)
      rw [(HAE ys HOY k (by omega) (by omega)).1, (HAE ys HOY k (by omega) (by omega)).2, HBL.out] at h
      rw [hz]; exact h
    have HHI : Hid (i < n + 1) := by unfold Hid; omega
    clear hxy hbw hpp hll hpv hctm hpb HOY htx hty hjn hq hzs HAE hz hk HBL HUC HLO HCT HST HOK HSM Y9 TX9 B9 HYS HIL HPB HU HP HNL hine hic hic' hin2 hcne hicI hinI2 hn1 hcn hlo2 hlo0 HBX HGY
    have RB10 : Hid (Below W10.heap.size W10 W10) := Below.refl _ _
    go_wp2_with fail
    refine (BX.out _ RB10.out).mono ?_
    rintro e u13 ⟨v13, rfl, ⟨s13, a13, n13, c13, o13, m13, d13, rfl, q13⟩, h13⟩
    obtain ⟨U13, hU13⟩ : ∃ W, W = u13.alloc (.cells #[.bool s13, .slice a13 n13 c13, .slice o13 m13 d13] 40) := ⟨_, rfl⟩
    obtain ⟨g13, hg13⟩ : ∃ g, g = u13.heap.size := ⟨_, rfl⟩
    have x13 : U13.heap[g13]? = some (.cells #[.bool s13, .slice a13 n13 c13, .slice o13 m13 d13] 40 (0, 0)) := by rw [hU13, hg13]; exact heap_alloc_new _ _
    have e13 : Below u13.heap.size u13 U13 := by rw [hU13]; exact below_new u13 _
    have f13 : Below W10.heap.size W10 U13 := h13.trans (e13.mono h13.size)
    have BB13 : Hid (Below W10.heap.size W10 U13) := Below.trans RB10.out (f13.mono (Below.size RB10.out))
    have XX13 := Lib.hid x13
    have QQ13 : Hid (IsQ ((z : Int) : Rat) 5 (.agg #[.bool s13, .slice a13 n13 c13, .slice o13 m13 d13]) U13) := ⟨_, _, _, _, _, _, _, rfl, q13.below e13⟩
    clear k0 k1 j0 j1
    obtain ⟨k0, k1⟩ := (KX.out.below BB13.out).box.cells
    obtain ⟨j0, j1⟩ := (KY.out.below BB13.out).box.cells
    rw [hU13] at k0 k1 j0 j1
    have HU13 := Lib.hid hU13
    have HG13 := Lib.hid hg13
    clear x13 e13 f13 h13 q13 hU13 hg13
    go_upto_region 14 with fail
    rw [← HU13.out] at k0 k1 j0 j1 ⊢
    try rw [← HG13.out]
    clear HU13 HG13
    go_wp2_with fail
    refine (BY.out _ BB13.out).mono ?_
    rintro e u14 ⟨v14, rfl, ⟨s14, a14, n14, c14, o14, m14, d14, rfl, q14⟩, h14⟩
    obtain ⟨U14, hU14⟩ : ∃ W, W = u14.alloc (.cells #[.bool s14, .slice a14 n14 c14, .slice o14 m14 d14] 40) := ⟨_, rfl⟩
    obtain ⟨g14, hg14⟩ : ∃ g, g = u14.heap.size := ⟨_, rfl⟩
    have x14 : U14.heap[g14]? = some (.cells #[.bool s14, .slice a14 n14 c14, .slice o14 m14 d14] 40 (0, 0)) := by rw [hU14, hg14]; exact heap_alloc_new _ _
    have e14 : Below u14.heap.size u14 U14 := by rw [hU14]; exact below_new u14 _
    have f14 : Below U13.heap.size U13 U14 := h14.trans (e14.mono h14.size)
    have BB14 : Hid (Below W10.heap.size W10 U14) := Below.trans BB13.out (f14.mono (Below.size BB13.out))
    have XX14 := Lib.hid x14
    have QQ14 : Hid (IsQ ((z : Int) : Rat) 5 (.agg #[.bool s14, .slice a14 n14 c14, .slice o14 m14 d14]) U14) := ⟨_, _, _, _, _, _, _, rfl, q14.below e14⟩
    replace XX13 := Lib.hid (carry XX13.out f14)
    replace QQ13 := Lib.hid (IsQ.below QQ13.out f14)
    clear k0 k1 j0 j1
    obtain ⟨k0, k1⟩ := (KX.out.below BB14.out).box.cells
    obtain ⟨j0, j1⟩ := (KY.out.below BB14.out).box.cells
    rw [hU14] at k0 k1 j0 j1
    have HU14 := Lib.hid hU14
    have HG14 := Lib.hid hg14
    clear x14 e14 f14 h14 q14 hU14 hg14
    go_upto_region 15 with fail
    rw [← HU14.out] at k0 k1 j0 j1 ⊢
    try rw [← HG14.out]
    clear HU14 HG14
    go_wp2_with fail
    have ryy := (KY.out.below BB14.out).rd
    have RW := raw_v st ay cy ys U14 ryy
    rw [HYG.out.2] at RW
    refine RW.mono ?_
    clear RW ryy
    rintro e u15 ⟨a8, c8, rfl, own8, b8⟩
    have hy10 : ys.take 10 = ys := List.take_of_length_le (by have := HYG.out.2; omega)
    rw [hy10, HYG.out.2] at own8 ⊢
    obtain ⟨bz, cz, ez⟩ := ownsRow_succ own8
    obtain ⟨rfl, -, rfl⟩ : a8 = some ⟨bz, 0, none⟩ ∧ n + 1 = n + 1 ∧ c8 = cz := by simpa using ez
    have hbz := own8.lt bz rfl
    obtain ⟨U15, hU15⟩ : ∃ W, W = u15.alloc (.cells #[.int .i64 st, .slice (some ⟨bz, 0, none⟩) (n + 1) c8] 24) := ⟨_, rfl⟩
    obtain ⟨gz, hgz⟩ : ∃ g, g = u15.heap.size := ⟨_, rfl⟩
    have e15 : Below u15.heap.size u15 U15 := by rw [hU15]; exact below_new u15 _
    have Z15 : Hid (TfBox U15 gz st (some ⟨bz, 0, none⟩) (n + 1) c8) := by unfold Hid; rw [hU15, hgz]; exact TfBox.new u15 _ _ _ _
    have O15 : Hid (U15.ownsRow U14.heap.size 51 2 (.slice (some ⟨bz, 0, none⟩) (n + 1) c8) (n + 1) (bkv ys)) := own_below own8 e15
    have f15 : Hid (Below U14.heap.size U14 U15) := b8.trans (e15.mono b8.size)
    have HBZ : Hid (U14.heap.size ≤ bz ∧ bz ≠ gz) := ⟨hbz.1, by rw [hgz]; have := hbz.2; omega⟩
    have hnc : n + 1 ≤ c8 := by
      rcases own8.2 with ⟨e, h0⟩ | ⟨_, cap', _, e, _, _, hn, _⟩
      · cases e
      · cases e; exact hn
    have hin1 : (i : Int) < (n : Int) + 1 := by have := HHI.out; omega
    have hin1' : ¬ (n : Int) + 1 ≤ (i : Int) := by omega
    have HU15 := Lib.hid hU15
    have HG15 := Lib.hid hgz
    clear own8 b8 hy10 ez hbz hU15 hgz e15 k0 k1 j0 j1
    go_upto_region 16 with fail
    rw [← HU15.out]
    try rw [← HG15.out]
    clear HU15 HG15
    refine wp_region_last (late := [12]) (S := fun w' => Below U15.heap.size U15 w') (by kernel_rfl) ((Below.refl _ _).drew) (fun hH => ?_)
    refine wpAnyL_pure (i := 0) (v := (.pointer (some ⟨gz, 1, none⟩))) rfl (by kernel_rfl) (by kernel_rfl) (by kernel_rfl) (fun _ _ _ h => h) (Or.inl ⟨by kernel_rfl, ?_⟩) ?_
    · intro w1 hB
      go_simp
    change wpAnyL _ _ _ _ _ _ _ _ (Act.put _ (some 101) _) _
    try simp only [Act.put, List.setIfInBounds_toArray, List.set_cons_zero, List.set_cons_succ]
    refine wpAnyL_take (bl := [10, 11, 12]) (i := 1) (v := (.slice (some ⟨bz, 0, none⟩) (n + 1) c8)) (by kernel_rfl) rfl (by kernel_rfl) (by kernel_rfl) (by kernel_rfl) (fun _ _ _ h => h) (Or.inl ⟨by kernel_rfl, ?_⟩) hH ?_
    · intro w1 hB
      have tz : TfBox w1 gz st (some ⟨bz, 0, none⟩) (n + 1) c8 := carry Z15.out hB
      obtain ⟨z0, z1⟩ := tz.cells
      have oz := own_below O15.out hB
      have ez : w1.cell? ⟨bz, i * 2 + 1, none⟩ = some (.int .i64 p) := by
        have h1 := oz.cellAt (i * 2 + 1) (by have := HHI.out; omega)
        have h2 := (bkv_at ys i (by have := HYG.out.2; have := HHI.out; omega)).2
        rw [HYG.out.1] at h2
        exact h1.trans h2
      clear tz oz
      go_simp
    change wpAnyL _ _ _ _ _ _ _ _ (Act.put _ (some 102) _) _
    try simp only [Act.put, List.setIfInBounds_toArray, List.set_cons_zero, List.set_cons_succ]
    refine wpAnyL_pure (i := 2) (v := (.int .i64 (i : Int))) rfl (by kernel_rfl) (by kernel_rfl) (by kernel_rfl) (fun _ _ _ h => h) (Or.inl ⟨by kernel_rfl, ?_⟩) ?_
    · intro w1 hB
      go_simp
    change wpAnyL _ _ _ _ _ _ _ _ (Act.put _ (some 103) _) _
    try simp only [Act.put, List.setIfInBounds_toArray, List.set_cons_zero, List.set_cons_succ]
    refine wpAnyL_pure (i := 3) (v := (.pointer (some ⟨gz, 1, none⟩))) rfl (by kernel_rfl) (by kernel_rfl) (by kernel_rfl) (fun _ _ _ h => h) (Or.inl ⟨by kernel_rfl, ?_⟩) ?_
    · intro w1 hB
      go_simp
    change wpAnyL _ _ _ _ _ _ _ _ (Act.put _ (some 104) _) _
    try simp only [Act.put, List.setIfInBounds_toArray, List.set_cons_zero, List.set_cons_succ]
    refine wpAnyL_take (bl := [6, 7, 8, 9, 10, 11, 12]) (i := 4) (v := (.slice (some ⟨bz, 0, none⟩) (n + 1) c8)) (by kernel_rfl) rfl (by kernel_rfl) (by kernel_rfl) (by kernel_rfl) (fun _ _ _ h => h) (Or.inl ⟨by kernel_rfl, ?_⟩) hH ?_
    · intro w1 hB
      have tz : TfBox w1 gz st (some ⟨bz, 0, none⟩) (n + 1) c8 := carry Z15.out hB
      obtain ⟨z0, z1⟩ := tz.cells
      have oz := own_below O15.out hB
      have ez : w1.cell? ⟨bz, i * 2 + 1, none⟩ = some (.int .i64 p) := by
        have h1 := oz.cellAt (i * 2 + 1) (by have := HHI.out; omega)
        have h2 := (bkv_at ys i (by have := HYG.out.2; have := HHI.out; omega)).2
        rw [HYG.out.1] at h2
        exact h1.trans h2
      clear tz oz
      go_simp
    change wpAnyL _ _ _ _ _ _ _ _ (Act.put _ (some 105) _) _
    try simp only [Act.put, List.setIfInBounds_toArray, List.set_cons_zero, List.set_cons_succ]
    refine wpAnyL_pure (i := 5) (v := (.int .i64 (i : Int))) rfl (by kernel_rfl) (by kernel_rfl) (by kernel_rfl) (fun _ _ _ h => h) (Or.inl ⟨by kernel_rfl, ?_⟩) ?_
    · intro w1 hB
      go_simp
    change wpAnyL _ _ _ _ _ _ _ _ (Act.put _ (some 106) _) _
    try simp only [Act.put, List.setIfInBounds_toArray, List.set_cons_zero, List.set_cons_succ]
    refine wpAnyL_pure (i := 6) (v := (.pointer (some ⟨bz, i * 2, none⟩))) rfl (by kernel_rfl) (by kernel_rfl) (by kernel_rfl) (fun _ _ _ h => h) (Or.inl ⟨by kernel_rfl, ?_⟩) ?_
    · intro w1 hB
      go_simp
    change wpAnyL _ _ _ _ _ _ _ _ (Act.put _ (some 107) _) _
    try simp only [Act.put, List.setIfInBounds_toArray, List.set_cons_zero, List.set_cons_succ]
    refine wpAnyL_pure (i := 7) (v := (.pointer (some ⟨bz, i * 2 + 1, none⟩))) rfl (by kernel_rfl) (by kernel_rfl) (by kernel_rfl) (fun _ _ _ h => h) (Or.inl ⟨by kernel_rfl, ?_⟩) ?_
    · intro w1 hB
      go_simp
    change wpAnyL _ _ _ _ _ _ _ _ (Act.put _ (some 108) _) _
    try simp only [Act.put, List.setIfInBounds_toArray, List.set_cons_zero, List.set_cons_succ]
    refine wpAnyL_take (bl := [9, 10, 11, 12]) (i := 8) (v := (.int .i64 p)) (by kernel_rfl) rfl (by kernel_rfl) (by kernel_rfl) (by kernel_rfl) (fun _ _ _ h => h) (Or.inl ⟨by kernel_rfl, ?_⟩) hH ?_
    · intro w1 hB
      have tz : TfBox w1 gz st (some ⟨bz, 0, none⟩) (n + 1) c8 := carry Z15.out hB
      obtain ⟨z0, z1⟩ := tz.cells
      have oz := own_below O15.out hB
      have ez : w1.cell? ⟨bz, i * 2 + 1, none⟩ = some (.int .i64 p) := by
        have h1 := oz.cellAt (i * 2 + 1) (by have := HHI.out; omega)
        have h2 := (bkv_at ys i (by have := HYG.out.2; have := HHI.out; omega)).2
        rw [HYG.out.1] at h2
        exact h1.trans h2
      clear tz oz
      go_simp
    change wpAnyL _ _ _ _ _ _ _ _ (Act.put _ (some 109) _) _
    try simp only [Act.put, List.setIfInBounds_toArray, List.set_cons_zero, List.set_cons_succ]
    refine wpAnyL_pure (i := 9) (v := (.int .i64 q)) rfl (by kernel_rfl) (by kernel_rfl) (by kernel_rfl) (fun _ _ _ h => h) (Or.inl ⟨by kernel_rfl, ?_⟩) ?_
    · intro w1 hB
      go_simp
    change wpAnyL _ _ _ _ _ _ _ _ (Act.put _ (some 110) _) _
    try simp only [Act.put, List.setIfInBounds_toArray, List.set_cons_zero, List.set_cons_succ]
    refine wpAnyL_pure (i := 10) (v := (.pointer (some ⟨bz, i * 2, none⟩))) rfl (by kernel_rfl) (by kernel_rfl) (by kernel_rfl) (fun _ _ _ h => h) (Or.inl ⟨by kernel_rfl, ?_⟩) ?_
    · intro w1 hB
      go_simp
    change wpAnyL _ _ _ _ _ _ _ _ (Act.put _ (some 111) _) _
    try simp only [Act.put, List.setIfInBounds_toArray, List.set_cons_zero, List.set_cons_succ]
    refine wpAnyL_pure (i := 11) (v := (.pointer (some ⟨bz, i * 2 + 1, none⟩))) rfl (by kernel_rfl) (by kernel_rfl) (by kernel_rfl) (fun _ _ _ h => h) (Or.inl ⟨by kernel_rfl, ?_⟩) ?_
    · intro w1 hB
      go_simp
    change wpAnyL _ _ _ _ _ _ _ _ (Act.put _ (some 112) _) _
    try simp only [Act.put, List.setIfInBounds_toArray, List.set_cons_zero, List.set_cons_succ]
    refine wpAnyL_ready (rs := [12]) (by kernel_rfl) (by simp) ?_
    refine AllReadyL.consLate (by decide) rfl (fun K hK => ?_) AllReadyL.nil
    go_simp
    have ez : U15.drew.cell? ⟨bz, i * 2 + 1, none⟩ = some (.int .i64 p) := by
      have h1 := O15.out.cellAt (i * 2 + 1) (by have := HHI.out; omega)
      have h2 := (bkv_at ys i (by have := HYG.out.2; have := HHI.out; omega)).2
      rw [HYG.out.1] at h2
      exact h1.trans h2
    have fz : U15.drew.frozen? ⟨bz, i * 2 + 1, none⟩ = false := O15.out.frozenAt _
    have ez2 : U15.cell? ⟨bz, i * 2 + 1, none⟩ = some (.int .i64 p) := ez
    have fz2 : U15.frozen? ⟨bz, i * 2 + 1, none⟩ = false := fz
    go_simp
    try go_simp
    refine hK.out _ _ ?_
    clear hK K
    try simp only [Act.put, List.setIfInBounds_toArray, List.set_cons_zero, List.set_cons_succ]
    refine wpAnyL_done (by kernel_rfl) ?_ _
    obtain ⟨W16, hW16⟩ : ∃ W, W = (U15.setCell ⟨bz, i * 2 + 1, none⟩ (.int .i64 q)).drew := ⟨_, rfl⟩
    try rw [← hW16]
    have f16 : Below U14.heap.size U14 W16 := by rw [hW16]; exact (Below.setCell (p := ⟨bz, i * 2 + 1, none⟩) f15.out HBZ.out.1 _).drew
    have KZ : Hid (TB W16 gz st (some ⟨bz, 0, none⟩) (n + 1) c8 zs) := by
      obtain ⟨o2, g2⟩ := O15.out.stored (i * 2 + 1) (.int .i64 q)
      rw [(bkv_set ys i (by have := HYG.out.2; have := HHI.out; omega) q).2, HYG.out.1, HZS.out] at o2
      obtain ⟨r2, l2, -⟩ := rd_of_own o2
      have z2 := Z15.out.grown g2 (fun e => HBZ.out.2 (Option.some.inj e).symm)
      unfold Hid
      rw [hW16]
      exact ⟨z2, r2.drew 1, l2, by omega⟩
    have B16 : Hid (Below W10.heap.size W10 W16) := BB14.out.trans (f16.mono BB14.out.size)
    replace XX13 := Lib.hid (carry XX13.out f16)
    replace QQ13 := Lib.hid (IsQ.below QQ13.out f16)
    replace XX14 := Lib.hid (carry XX14.out f16)
    replace QQ14 := Lib.hid (IsQ.below QQ14.out f16)
    clear hW16 f16 Z15 O15 f15 HBZ hH
    obtain ⟨p13, p13', p13'', -, -, -⟩ := at_block XX13.out
    obtain ⟨p14, p14', p14'', -, -, -⟩ := at_block XX14.out
    go_wp2_with fail
    refine (same_z QQ13.out QQ14.out rfl).mono ?_
    rintro e V1 ⟨rfl, v1⟩
    have BV1 : Hid (Below W16.heap.size W16 V1) := v1
    clear v1 p13 p13' p13'' p14 p14' p14''
    obtain ⟨k0, k1⟩ := ((KX.out.below B16.out).below BV1.out).box.cells
    obtain ⟨j0, j1⟩ := ((KY.out.below B16.out).below BV1.out).box.cells
    obtain ⟨z0, z1⟩ := (KZ.out.below BV1.out).box.cells
    go_wp2_with fail
    refine (TB.equiv' ((KX.out.below B16.out).below BV1.out) ((KY.out.below B16.out).below BV1.out)).mono ?_
    rintro e V2 hs2
    obtain ⟨rfl, v2⟩ := says_true hs2 HE1.out
    have BV2 : Hid (Below W16.heap.size W16 V2) := BV1.out.trans (v2.mono BV1.out.size)
    clear hs2 v2 k0 k1 j0 j1 z0 z1
    obtain ⟨k0, k1⟩ := ((KX.out.below B16.out).below BV2.out).box.cells
    obtain ⟨j0, j1⟩ := ((KY.out.below B16.out).below BV2.out).box.cells
    obtain ⟨z0, z1⟩ := (KZ.out.below BV2.out).box.cells
    go_wp2_with fail
    refine (TB.equiv' ((KY.out.below B16.out).below BV2.out) ((KX.out.below B16.out).below BV2.out)).mono ?_
    rintro e V3 hs3
    obtain ⟨rfl, v3⟩ := says_true hs3 HE2.out
    have BV3 : Hid (Below W16.heap.size W16 V3) := BV2.out.trans (v3.mono BV2.out.size)
    clear hs3 v3 k0 k1 j0 j1 z0 z1
    obtain ⟨k0, k1⟩ := ((KX.out.below B16.out).below BV3.out).box.cells
    obtain ⟨j0, j1⟩ := ((KY.out.below B16.out).below BV3.out).box.cells
    obtain ⟨z0, z1⟩ := (KZ.out.below BV3.out).box.cells
    go_wp2_with fail
    refine (TB.equiv' ((KX.out.below B16.out).below BV3.out) (KZ.out.below BV3.out)).mono ?_
    rintro e V4 hs4
    obtain ⟨rfl, v4⟩ := says_false hs4 HE3.out
    have BV4 : Hid (Below W16.heap.size W16 V4) := BV3.out.trans (v4.mono BV3.out.size)
    clear hs4 v4 k0 k1 j0 j1 z0 z1
    go_wp2_with fail
    refine (awake_v _).mono ?_
    rintro e V5 ⟨rfl, v5⟩
    have FIN : Hid (Below w.heap.size w V5) := by
      have h1 := B10.out.trans (B16.out.mono B10.out.size)
      have h2 := h1.trans (BV4.out.mono h1.size)
      exact h2.trans (v5.mono h2.size)
    clear v5
    go_wp2_with fail
    go_ret
    exact ⟨rfl, FIN.out⟩
end Go.Proofs.Ytdcnkebcpaelpaa.T14
