import Derived.Test.YtpoipkjchnopbaaPrd3
import Derived.Deep.RegionLaw
import Derived.Deep.CutRange
/- Layer 9: the reference's Sorted and Normalize. -/
namespace Go.Proofs.Ytpoipkjchnopbaa.P9
open Go.RowKit Go.Sort C6

theorem less_iff (a b : ByteArray) : Op.bytesLess a.toList b.toList = decide (a.data.toList < b.data.toList) := by
  rw [Go.Proofs.bytesLess_eq, ByteArray.toList_eq, ByteArray.toList_eq]
theorem less_lss (x y : Atr) : Op.bytesLess x.1.toList y.1.toList = lss x y := less_iff _ _
theorem own_at {w : World} {base n : Nat} {t : TypeId} {g cap : Nat} {l : List Atr} (h : w.ownsRow base t 2 (.slice (some ⟨g, 0, none⟩) n cap) n (atv l)) {i : Nat} (hi : i < n) : At2 w g (i * 2) (l.getD i e2) := by
  have hlen : l.length = n := by have := h.1; rw [atv_length] at this; omega
  obtain ⟨a0, a1⟩ := atv_at l i (by omega)
  exact ⟨by rw [h.cellAt (i * 2) (by omega), a0], by rw [h.cellAt (i * 2 + 1) (by omega), a1]⟩
theorem drewN_below' {B : Nat} {w w2 : World} (h : Below B w w2) (n : Nat) : Below B w (w2.drewN n) := h.trans ⟨rfl, rfl, rfl, Nat.le_refl _, fun _ _ => rfl⟩
theorem ba_ext' {a b : ByteArray} (h : a.data.toList = b.data.toList) : a = b := C6.ba_ext h
theorem own_front {w : World} {base n : Nat} {t : TypeId} {g cap : Nat} {l : List Atr} (h : w.ownsRow base t 2 (.slice (some ⟨g, 0, none⟩) n cap) n (atv l)) {k : Nat} (hk : k ≤ n) : w.ownsRow base t 2 (.slice (some ⟨g, 0, none⟩) k cap) k (atv (l.take k)) := by
  have hlen : l.length = n := by have := h.1; rw [atv_length] at this; omega
  rcases h.2 with ⟨e, _⟩ | ⟨g', cap', cur, e, hb, hg, hn, hc, hs, ht⟩
  · cases e
  · cases e
    refine ⟨by rw [atv_length, List.length_take]; omega, .inr ⟨g, cap, cur, rfl, hb, hg, by omega, hc, hs, ?_⟩⟩
    have e1 : cur.toList.take (k * 2) = (cur.toList.take (n * 2)).take (k * 2) := by rw [List.take_take, Nat.min_eq_left (by omega)]
    rw [e1, ht]
    have : l = l.take k ++ l.drop k := (List.take_append_drop k l).symm
    conv => lhs; rw [this]
    rw [atv_append]
    exact List.take_left' (by rw [atv_length, List.length_take]; omega)
theorem own_back {w : World} {base n : Nat} {t : TypeId} {g cap : Nat} {l : List Atr} (h : w.ownsRow base t 2 (.slice (some ⟨g, 0, none⟩) n cap) n (atv l)) {k : Nat} (hk : k ≤ n) : ∀ j u, (atv (l.drop k))[j]? = some u → w.cell? ((⟨g, k * 2, none⟩ : Addr).add j) = some u := by
  intro j u hj
  have hlen : l.length = n := by have := h.1; rw [atv_length] at this; omega
  have hl := (List.getElem?_eq_some_iff.1 hj).1
  rw [atv_length, List.length_drop] at hl
  rw [Addr.add_lit, h.cellAt _ (by omega)]
  have : l = l.take k ++ l.drop k := (List.take_append_drop k l).symm
  rw [this, atv_append, List.getElem?_append_right (by rw [atv_length, List.length_take]; omega), atv_length, List.length_take, Nat.min_eq_left (by omega), show k * 2 + j - k * 2 = j by omega]
  exact hj

theorem row_form {w : World} {base n size : Nat} {e : TypeId} {a : Option Addr} {c : Nat} {xs : List Value} (h : w.ownsRow base e size (.slice a n c) n xs) (hn : 0 < n) : ∃ g, a = some ⟨g, 0, none⟩ ∧ g < w.heap.size ∧ base ≤ g ∧ ∀ j u, xs[j]? = some u → w.cell? ((⟨g, 0, none⟩ : Addr).add j) = some u := by
  rcases h.2 with ⟨e, h0⟩ | ⟨g, cap', cur, e, _⟩
  · omega
  · cases e
    exact ⟨g, rfl, (h.lt g rfl).2, (h.lt g rfl).1, h.cells rfl⟩
theorem step_append_own {P : Program} {ops : Array Oper} {o : Oper} {a : Act} {w : World} {K : Act → World → Prop} {Q : Exit → Act → World → Prop} {E : Prop} (hg : o.guard = none) (s x : Operand) (t : TypeId)
    (ho : o.op = .call { callee := .builtin .append, args := #[s, x], argTypes := #[t, t] })
    (base : Nat) (e : TypeId) (i : TypeInfo) (z : Value) (size bytes : Nat) (ht : P.underlying t = some (.slice e)) (hi : P.info? e = some i) (hz : i.zero = some z)
    (hsize : i.size = size) (hby : i.bytes = bytes) (hzs : z.cells.size = size) (hsz : 0 < size)
    (v : Value) (n : Nat) (xs : List Value) (hs : a.eval s = v) (hown : w.ownsRow base e size v n xs)
    (ad : Addr) (m c : Nat) (news : List Value) (hx : a.eval x = .slice (some ad) m c) (hl : news.length = m * size) (hnews : ∀ j u, news[j]? = some u → w.cell? (ad.add j) = some u) (h1 : ∀ u ∈ news, u.oneCell' = true)
    (h63 : n + m ≤ maxLen) (hbytes : (n + m) * bytes ≤ 140737488355328) (hbase : base ≤ w.heap.size)
    (h : ∀ v' w', w'.ownsRow base e size v' (n + m) (xs ++ news) → w.grownBy w' v.ownBlock → (v' = .slice none 0 0 ↔ v = .slice none 0 0 ∧ m = 0) → K (a.put o.dst v') w') :
    if Region.wanted o (yielded ops a.tmps) = true then Oper.wp P o a w K Q else E := by
  rw [if_pos (by simp [Region.wanted, hg])]
  exact wp_append_own w s x t ho base e i z size bytes ht hi hz hsize hby hzs hsz v n xs hs hown ad m c news hx hl hnews h1 h63 hbytes hbase h

set_option maxHeartbeats 8000000 in
set_option maxRecDepth 100000 in
theorem Sorted_v (ao : Option Addr) (cap : Nat) (l : List Atr) (w : World) (h : RdA w ao cap l) (hl : l.length ≤ 30) :
    Calls Try.prog 23 #[.slice ao l.length cap] w fun e w' => ∃ a c, e = .returned (.slice a l.length c) ∧ w'.ownsRow w.heap.size 42 2 (.slice a l.length c) l.length (atv (isort l)) ∧ Below w.heap.size w w' := by
  obtain ⟨i0, hi, hz0, hz1, hz2⟩ := info_parts infoAtr
  obtain ⟨n, hn⟩ : ∃ n, n = l.length := ⟨_, rfl⟩
  have hn30 : n ≤ 30 := by omega
  have HR := Lib.hid h
  have HN := Lib.hid hn
  have hcap : n ≤ cap ∧ cap ≤ 9223372036854775807 := by have := h.1; have := h.2.1; omega
  obtain ⟨hc1, hc2⟩ := hcap
  rw [← hn]
  clear h hl hn
  go_enter Try.func23, Try.ntmps23
  go_wp2_with fail
  go_loopw [3, 9] (fun s3 s9 wr => ∃ (i : Nat) (a : Option Addr) (c : Nat), i ≤ n ∧ s9 = .int .i64 (i : Int) ∧ s3 = .slice a i c ∧ Hid (wr.ownsRow w.heap.size 42 2 (.slice a i c) i (atv (isort (l.take i)))) ∧ Hid (Below w.heap.size w wr)) (fun _ s9 _ => n - (intOf s9).toNat)
  case atStart => exact ⟨0, none, 0, by omega, rfl, rfl, World.ownsRow_nil _ _ _ _, Below.refl _ _⟩
  case round =>
    obtain ⟨i, a, c, hin, rfl, rfl, hown, hbl⟩ := hrel
    obtain ⟨wo, rfl⟩ : ∃ wo : World, wo = wr := ⟨_, rfl⟩
    by_cases hlt : i < n
    · have hlt2 : (i : Int) < (n : Int) := by omega
      obtain ⟨b, o, rfl, hcs⟩ := (HR.out.below hbl.out).at (i := i) (by have := HN.out; omega)
      obtain ⟨x, hx⟩ : ∃ x, x = l.getD i e2 := ⟨_, rfl⟩
      obtain ⟨c0, c1⟩ := hcs i (by have := HN.out; omega)
      rw [← hx] at c0 c1
      have HST : Hid (isort (l.take (i + 1)) = insA (isort (l.take i)) x) := by unfold Hid; rw [hx]; exact isort_take l i (by have := HN.out; omega)
      obtain ⟨S, hS⟩ : ∃ S, S = isort (l.take i) := ⟨_, rfl⟩
      have hSl : S.length = i := by rw [hS, isort_length, List.length_take]; have := HN.out; omega
      unfold Hid at HST hown
      rw [← hS] at HST hown
      obtain ⟨x1, x2⟩ := x
      have HOW := Lib.hid hown
      have HST2 := Lib.hid HST
      have HSL := Lib.hid hSl
      have hcc : i ≤ c ∧ c ≤ 9223372036854775807 := by
        rcases hown.2 with ⟨e, h0⟩ | ⟨g, cap', cur, e, _, _, hnc, hcm, _, _⟩
        · cases e; omega
        · cases e; unfold maxLen at hcm; omega
      obtain ⟨hcc1, hcc2⟩ := hcc
      obtain ⟨W4, hW4⟩ : ∃ W, W = wo.alloc (.cells #[.string x1, .string x2] 42) := ⟨_, rfl⟩
      have n4 : Below wo.heap.size wo W4 := by rw [hW4]; exact below_new _ _
      have x4 : W4.heap[wo.heap.size]? = some (.cells #[.string x1, .string x2] 42 (0, 0)) := by rw [hW4]; exact heap_alloc_new _ _
      have o4 := own_below HOW.out n4
      have b4 : Below w.heap.size w W4 := keep hbl.out n4
      have s4 : W4.heap.size = wo.heap.size + 1 := by rw [hW4]; exact World.size_alloc _ _
      have HX4 := Lib.hid x4
      have HO4 := Lib.hid o4
      have HB4 := Lib.hid b4
      have HS4 := Lib.hid s4
      clear hx hS hSl HST hown hcs n4 x4 o4 b4 s4
      obtain ⟨K, hK⟩ : ∃ K, K = pos (x1, x2) S i := ⟨_, rfl⟩
      have hKi : K ≤ i := by rw [hK]; exact pos_le _ _ _
      have HK := Lib.hid hK
      clear hK
      go_upto_block 2 with fail
      rw [← hW4]
      go_cut [6] from 15 to 40 (fun v6 (wx : World) => v6 = .int .i64 (K : Int) ∧ Hid (wx.heap = W4.heap ∧ Below W4.heap.size W4 wx))
      case first =>
        go_wp2_with fail
        go_loopw [6] (fun s6 (wx : World) => ∃ k : Nat, k ≤ i ∧ s6 = .int .i64 (k : Int) ∧ Hid (K = pos (x1, x2) S k) ∧ Hid (wx.heap = W4.heap ∧ Below W4.heap.size W4 wx)) (fun s6 _ => (intOf s6).toNat)
        case atStart => exact ⟨i, Nat.le_refl _, rfl, HK, by rw [hW4], by rw [← hW4]; exact Below.refl _ _⟩
        case round =>
          obtain ⟨k, hki, rfl, hpos, hbx⟩ := hrel
          have o5 := own_below HO4.out hbx.out.2
          have x5 : wr.heap[wo.heap.size]? = some (.cells #[.string x1, .string x2] 42 (0, 0)) := by rw [hbx.out.1]; exact HX4.out
          cases k with
          | zero =>
            obtain rfl : K = 0 := hpos.out
            clear hpos o5
            go_wp2_with fail
            go_quiet (fail)
            all_goals
              go_wp2_with fail
              go_meet
              exact ⟨rfl, hbx.out.1, drewN_below' hbx.out.2 _⟩
          | succ m =>
            have hmi : m < i := by omega
            obtain ⟨g, rfl⟩ : ∃ g, a = some ⟨g, 0, none⟩ := by
              rcases HO4.out.2 with ⟨e, h0⟩ | ⟨g, cap', cur, e, _⟩
              · omega
              · cases e; exact ⟨g, rfl⟩
            obtain ⟨y0, y1⟩ := own_at o5 hmi
            have hls := less_lss (x1, x2) (S.getD m e2)
            obtain ⟨y, hy⟩ : ∃ y, y = S.getD m e2 := ⟨_, rfl⟩
            rw [← hy] at y0 y1 hls
            have p0 : wr.cell? ⟨wo.heap.size, 0, none⟩ = some (.string x1) := by simp [World.cell?, x5]
            have hmc : m < c := by omega
            have hmI : (m : Int) < (i : Int) := by omega
            have hm1 : (m : Int) + 1 - 1 = (m : Int) := by omega
            have hm0 : (0 : Int) < (m : Int) + 1 := by omega
            cases hlv : lss (x1, x2) y with
            | true =>
              rw [hlv] at hls
              have HP2 : Hid (K = pos (x1, x2) S m) := by unfold Hid; rw [hpos.out]; exact pos_go (by rw [← hy]; exact hlv)
              clear hpos hy o5 hlv
              go_wp2_with fail
              go_quiet (fail)
              all_goals
                go_wp2_with fail
                go_roundw
                case rel => exact ⟨m, by omega, by go_num, HP2, hbx.out.1, drewN_below' hbx.out.2 _⟩
                case measure => first | (simp [intOf]; done) | (simp [intOf]; omega)
            | false =>
              rw [hlv] at hls
              obtain rfl : K = m + 1 := by rw [hpos.out]; exact pos_stop (by rw [← hy]; exact hlv)
              clear hpos hy o5 hlv
              go_wp2_with fail
              go_quiet (fail)
              all_goals
                go_wp2_with fail
                go_meet
                exact ⟨rfl, hbx.out.1, drewN_below' hbx.out.2 _⟩
      case rest =>
        obtain ⟨rfl, hbx⟩ := hcut
        have x5 : wc.heap[wo.heap.size]? = some (.cells #[.string x1, .string x2] 42 (0, 0)) := by rw [hbx.out.1]; exact HX4.out
        have p0 : wc.cell? ⟨wo.heap.size, 0, none⟩ = some (.string x1) := by simp [World.cell?, x5]
        have p1 : wc.cell? ⟨wo.heap.size, 1, none⟩ = some (.string x2) := by simp [World.cell?, x5]
        have o5 := Lib.hid (own_below HO4.out hbx.out.2)
        have b5 := Lib.hid (HB4.out.trans (hbx.out.2.mono HB4.out.size))
        have hKc : K ≤ c := by omega
        have hKI : (K : Int) ≤ (i : Int) := by omega
        have hKcI : (K : Int) ≤ (c : Int) := by omega
        have hicI : (i : Int) ≤ (c : Int) := by omega
        clear hbx x5 hW4
        cases a with
        | none =>
          have hi0 : i = 0 ∧ c = 0 := by
            rcases o5.out.2 with ⟨e, h0⟩ | ⟨g, cap', cur, e, _⟩
            · cases e; omega
            · cases e
          obtain ⟨rfl, rfl⟩ := hi0
          obtain rfl : K = 0 := by omega
          have hS0 : S = [] := List.eq_nil_of_length_eq_zero HSL.out
          have hbw : w.heap.size ≤ wc.heap.size := b5.out.size
          have OL : Hid (((wc.alloc (.cells #[.string x1, .string x2] 42)).drew).ownsRow w.heap.size 42 2 (.slice (some ⟨wc.heap.size, 0, none⟩) 1 1) 1 [.string x1, .string x2]) := World.ownsRow_lit wc #[.string x1, .string x2] 1 hbw (by decide) rfl
          have NW : Hid (∀ j u, ([.string x1, .string x2] : List Value)[j]? = some u → ((wc.alloc (.cells #[.string x1, .string x2] 42)).drew).cell? ((⟨wc.heap.size, 0, none⟩ : Addr).add j) = some u) := OL.out.cells rfl
          have BW : Hid (Below w.heap.size w ((wc.alloc (.cells #[.string x1, .string x2] 42)).drew)) := (b5.out.trans ((below_new wc _).mono hbw)).drew
          go_wp2_with fail
          go_region_law (first
            | (refine step_append_own rfl (.tmp 32) (.tmp 38) 24 rfl w.heap.size 42 i0 (.agg #[.string ByteArray.empty, .string ByteArray.empty]) 2 32 Try.underlying24 hi hz0 hz1 hz2 rfl (by decide) (.slice none 0 0) 0 [] (by simp [Act.eval]) (World.ownsRow_nil _ _ _ _) ⟨wc.heap.size, 0, none⟩ 1 1 [.string x1, .string x2] (by simp [Act.eval]) rfl NW.out (atv_one' [(x1, x2)]) (by decide) (by decide) (by have := BW.out.size; omega) ?_; intro v4 w4 hown4 hgr4 _; obtain ⟨a4, c4, rfl⟩ := of_row_n hown4))
          all_goals
            have B4 : Hid (Below w.heap.size w w4) := BW.out.grown hgr4 BW.out.size (fun k e => by simp [Value.ownBlock] at e)
            have O4 : Hid (w4.ownsRow w.heap.size 42 2 (.slice a4 1 c4) 1 (atv (isort (l.take 1)))) := by
              unfold Hid
              rw [HST2.out, hS0]
              exact hown4
            clear hown4 hgr4
            go_wp2_with fail
            go_roundw
            case rel => exact ⟨1, a4, c4, by omega, by go_num, rfl, O4, B4⟩
            case measure => first | (simp [intOf]; done) | (simp [intOf]; omega)
        | some ad =>
          obtain ⟨g, rfl⟩ : ∃ g, ad = ⟨g, 0, none⟩ := by
            rcases o5.out.2 with ⟨e, h0⟩ | ⟨g, cap', cur, e, _⟩
            · cases e
            · cases e; exact ⟨g, rfl⟩
          have HAD : ∃ ad, (if c = K then (some ⟨g, 0, none⟩ : Option Addr) else some ⟨g, K * 2, none⟩) = some ad ∧ ∀ j u, (atv (S.drop K))[j]? = some u → wc.cell? (ad.add j) = some u := by
            by_cases hcK : c = K
            · refine ⟨_, if_pos hcK, fun j u hj => ?_⟩
              have : S.drop K = [] := List.drop_eq_nil_of_le (by rw [HSL.out]; omega)
              rw [this] at hj
              simp [atv] at hj
            · exact ⟨_, if_neg hcK, own_back o5.out hKi⟩
          obtain ⟨ad, hAD, hnews⟩ := HAD
          have HAD2 := Lib.hid hAD
          have hlt1 := (o5.out.lt g rfl)
          have hbw : w.heap.size ≤ wc.heap.size := b5.out.size
          have OL : Hid (((wc.alloc (.cells #[.string x1, .string x2] 42)).drew).ownsRow w.heap.size 42 2 (.slice (some ⟨wc.heap.size, 0, none⟩) 1 1) 1 [.string x1, .string x2]) := World.ownsRow_lit wc #[.string x1, .string x2] 1 hbw (by decide) rfl
          have NW : Hid (∀ j u, (atv (S.drop K))[j]? = some u → ((wc.alloc (.cells #[.string x1, .string x2] 42)).drew).cell? (ad.add j) = some u) := fun j u hj => by
            have h := hnews j u hj
            have := (below_new wc (.cells #[.string x1, .string x2] 42)).cell (p := ad.add j) (World.block_lt_of_cell? _ _ h)
            exact this.trans h
          have NL : Hid ((atv (S.drop K)).length = (i - K) * 2) := by unfold Hid; rw [atv_length, List.length_drop, HSL.out]
          have OF : Hid (((wc.alloc (.cells #[.string x1, .string x2] 42)).drew).ownsRow w.heap.size 42 2 (.slice (some ⟨g, 0, none⟩) K c) K (atv (S.take K))) := (own_front o5.out hKi).alloc _
          have BW : Hid (Below w.heap.size w ((wc.alloc (.cells #[.string x1, .string x2] 42)).drew)) := (b5.out.trans ((below_new wc _).mono hbw)).drew
          clear hnews hAD
          go_wp2_with fail
          go_region_law (first
            | (refine step_append_own rfl (.tmp 34) (.tmp 37) 24 rfl w.heap.size 42 i0 (.agg #[.string ByteArray.empty, .string ByteArray.empty]) 2 32 Try.underlying24 hi hz0 hz1 hz2 rfl (by decide) (.slice (some ⟨wc.heap.size, 0, none⟩) 1 1) 1 [.string x1, .string x2] (by simp [Act.eval]) OL.out ad (i - K) (c - K) (atv (S.drop K)) (by show Value.slice (if c = K then _ else _) _ _ = _; rw [HAD2.out]) NL.out NW.out (atv_one' _) (by unfold maxLen; omega) (by omega) (by simp [World.drew]; omega) ?_; intro v3 w3 hown3 hgr3 _; obtain ⟨a3, c3, rfl⟩ := of_row_n hown3; obtain ⟨g3, rfl, hg3, hg3b, hn3⟩ := row_form hown3 (by omega))
            | (refine step_append_own rfl (.tmp 32) (.tmp 38) 24 rfl w.heap.size 42 i0 (.agg #[.string ByteArray.empty, .string ByteArray.empty]) 2 32 Try.underlying24 hi hz0 hz1 hz2 rfl (by decide) (.slice (some ⟨g, 0, none⟩) K c) K (atv (S.take K)) (by simp [Act.eval]) (OF.out.kept hgr3 (.inr (by simp [Value.ownBlock]; omega))) ⟨g3, 0, none⟩ (1 + (i - K)) c3 ([.string x1, .string x2] ++ atv (S.drop K)) (by simp [Act.eval]) (by rw [List.length_append, NL.out]; simp; omega) hn3 (atv_one' ((x1, x2) :: S.drop K)) (by unfold maxLen; omega) (by omega) (by have := BW.out.size; have := hgr3.size; omega) ?_; intro v4 w4 hown4 hgr4 _; obtain ⟨a4, c4, rfl⟩ := of_row_n hown4))
          all_goals
            have hnum : K + (1 + (i - K)) = i + 1 := by omega
            rw [hnum] at hown4 ⊢
            have B4 : Hid (Below w.heap.size w w4) := (BW.out.grown hgr3 BW.out.size (fun k e => by simp [Value.ownBlock] at e; omega)).grown hgr4 (by have := BW.out.size; have := hgr3.size; omega) (fun k e => by have := (OF.out.lt k e).1; omega)
            have O4 : Hid (w4.ownsRow w.heap.size 42 2 (.slice a4 (i + 1) c4) (i + 1) (atv (isort (l.take (i + 1))))) := by
              unfold Hid
              rw [HST2.out]
              unfold insA
              rw [HSL.out, ← HK.out, atv_append]
              exact hown4
            clear hown4 hgr4 hgr3 hown3 hn3
            go_wp2_with fail
            go_roundw
            case rel => exact ⟨i + 1, a4, c4, by omega, by go_num, rfl, O4, B4⟩
            case measure => first | (simp [intOf]; done) | (simp [intOf]; omega)
    · obtain rfl : i = n := by omega
      have hlt2 : ¬ (i : Int) < (i : Int) := by omega
      have e0 : l.take i = l := List.take_of_length_le (by have := HN.out; omega)
      have hw := hown.out
      rw [e0] at hw
      have HW := Lib.hid hw
      clear hw e0 hown
      go_wp2_with fail
      go_ret
      exact ⟨a, c, rfl, HW.out, hbl.out⟩

set_option maxHeartbeats 8000000 in
set_option maxRecDepth 100000 in
theorem rNormalize_v (p : Pd) (ao : Option Addr) (cap : Nat) (l : List Atr) (w : World) (h : RdA w ao cap l) (hl : l.length ≤ 30) :
    Calls Try.prog 10 #[.agg #[.string p.id, .string p.co, .string p.br, .int .i64 p.d, .int .i64 p.c, .int .i64 p.a, .slice ao l.length cap]] w (NPost p l w) := by
  obtain ⟨n, hn⟩ : ∃ n, n = l.length := ⟨_, rfl⟩
  obtain ⟨W2, hW2⟩ : ∃ W, W = (w.alloc (.cells #[.string p.id, .string p.co, .string p.br, .int .i64 p.d, .int .i64 p.c, .int .i64 p.a, .slice ao n cap] 26)).alloc (.cells #[.string ⟨#[]⟩, .string ⟨#[]⟩, .string ⟨#[]⟩, .int .i64 0, .int .i64 0, .int .i64 0, .slice none 0 0] 26) := ⟨_, rfl⟩
  obtain ⟨P2, Q2, B2, s2⟩ := boxes2 w p (.slice ao n cap) W2 hW2
  have CP := Sorted_v ao cap l W2 (h.below B2) (by omega)
  rw [← hn] at CP
  have CP2 := Lib.hid CP
  have HP2 := Lib.hid P2
  have HQ2 := Lib.hid Q2
  have HB2 := Lib.hid B2
  have HN := Lib.hid hn
  have HS2 := Lib.hid s2
  unfold NPost
  rw [← hn]
  obtain ⟨k0, k1, k2, k3, k4, k5, k6⟩ := P2.cells
  clear h hl hn P2 Q2 B2 s2 CP
  go_enter Try.func10, Try.ntmps10
  go_wp2_with fail
  rw [← hW2]
  refine CP2.out.mono ?_; rintro e w3 ⟨a3, c3, rfl, hown, hb⟩
  have P3 := Lib.hid (HP2.out.below hb)
  have Q3 := Lib.hid (HQ2.out.below hb)
  have B3 := Lib.hid (keep HB2.out hb)
  have O3 := Lib.hid hown
  clear hown hb k0 k1 k2 k3 k4 k5 k6
  obtain ⟨k0, k1, k2, k3, k4, k5, k6⟩ := P3.out.cells
  obtain ⟨f0, f1, f2, f3, f4, f5, f6⟩ := P3.out.fz
  obtain ⟨q0, q1, q2, q3, q4, q5, q6⟩ := Q3.out.fz
  obtain ⟨r0, r1, r2, r3, r4, r5, r6⟩ := Q3.out.cells
  go_wp2_with fail
  have o4 := O3.out.kept (gb_set w3 w.heap.size 6 (.slice a3 n c3)) (row_ne O3.out (by rw [HS2.out]; omega))
  have q4' : PB (w3.setCell ⟨w.heap.size, 6, none⟩ (.slice a3 n c3)) (w.heap.size + 1) Pd.zero (.slice none 0 0) := Q3.out.grown (gb_set _ _ _ _) (by simp)
  have b4 : Below w.heap.size w (w3.setCell ⟨w.heap.size, 6, none⟩ (.slice a3 n c3)) := B3.out.setCell (Nat.le_refl _) _
  have o5 := o4.kept (set7_gb (w3.setCell ⟨w.heap.size, 6, none⟩ (.slice a3 n c3)) (w.heap.size + 1) p (.slice a3 n c3)) (row_ne o4 (by rw [HS2.out]; omega))
  have b5 : Below w.heap.size w (set7 (w3.setCell ⟨w.heap.size, 6, none⟩ (.slice a3 n c3)) (w.heap.size + 1) p (.slice a3 n c3)) := set7_below b4 (by omega) q4'.lt _ _
  refine bodyPost_ret (v := .agg #[.string p.id, .string p.co, .string p.br, .int .i64 p.d, .int .i64 p.c, .int .i64 p.a, .slice a3 n c3]) (by simp [results, Try.results10, go_sem, r0, r1, r2, r3, r4, r5, r6]) rfl ?_
  exact ⟨a3, c3, rfl, own_mono' o5 (by rw [HS2.out]; omega), b5⟩
end Go.Proofs.Ytpoipkjchnopbaa.P9
