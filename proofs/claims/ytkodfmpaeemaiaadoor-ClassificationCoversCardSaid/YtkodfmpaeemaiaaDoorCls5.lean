import Derived.Test.YtkodfmpaeemaiaaDoorCls1
/- The reference of package classification: Format. -/
namespace Go.Proofs.YtkodfmpaeemaiaaDoor.C6
open Go.RowKit Go.Sort

/-- one byte as a string -/
theorem byte_str (w : World) (x : Int) (k : Nat) (hk : k < 10) (hx : x = 48 + (k : Int)) :
    (convert 68 9 (.slice (some ⟨w.heap.size, 0, none⟩) 1 1)).run Tryd.prog (w.alloc (.cells #[.int .u8 x] 5)) = .ok (.string ⟨[dg k].toArray⟩) (w.alloc (.cells #[.int .u8 x] 5)) := by
  refine run_convert_bytes_back (P := Tryd.prog) (w.alloc (.cells #[.int .u8 x] 5)) 68 9 5 ⟨w.heap.size, 0, none⟩ 1 [dg k] Tryd.underlying68 Tryd.underlying5 Tryd.underlying9 (fun j hj => ?_)
  have e0 : x = ((dg k).toNat : Int) := by rw [dg_nat hk]; omega
  rw [Addr.add_lit, Nat.zero_add]
  have : j = 0 := by simp at hj; omega
  subst this
  rw [World.cell?_alloc_mark w _ _ (0, 0) 0, e0]
  rfl
theorem txt_tw {p : List Nat} {n : Nat} (h : n < 100) : (p = [] → (⟨[dg (n / 10)].toArray⟩ : ByteArray) ++ (⟨[dg (n % 10)].toArray⟩ : ByteArray) = txt [n]) ∧
    (p ≠ [] → 10 ≤ n → txt p ++ (⟨#[46]⟩ : ByteArray) ++ (⟨[dg (n / 10)].toArray⟩ : ByteArray) ++ (⟨[dg (n % 10)].toArray⟩ : ByteArray) = txt (p ++ [n])) ∧
    (p ≠ [] → n < 10 → txt p ++ (⟨#[46]⟩ : ByteArray) ++ (⟨[dg (n % 10)].toArray⟩ : ByteArray) = txt (p ++ [n])) := by
  refine ⟨fun hp => ?_, fun hp h10 => ?_, fun hp h10 => ?_⟩
  · exact (bs_app _ _).trans (by simp [txt, cod, rest, tw])
  · refine (congrArg (· ++ (⟨[dg (n % 10)].toArray⟩ : ByteArray)) (bs3 (cod p) [46] [dg (n / 10)])).trans ((bs_app _ _).trans ?_)
    unfold txt
    rw [cod_snoc hp, sh_two h10]
    simp [tw]
  · refine (bs3 (cod p) [46] [dg (n % 10)]).trans ?_
    unfold txt
    rw [cod_snoc hp, sh_one h10, show n % 10 = n by omega]

set_option maxHeartbeats 8000000 in
set_option maxRecDepth 100000 in
theorem rFormat_v (ao : Option Addr) (cap : Nat) (zs : List Int) (w : World) (h : RdZ w ao cap zs) :
    Calls Tryd.prog 30 #[.slice ao zs.length cap] w fun e w' => FmtPost zs e ∧ Below w.heap.size w w' := by
  by_cases hl : 1 ≤ zs.length ∧ zs.length ≤ 5
  · obtain ⟨l, hlen⟩ : ∃ l, l = zs.length := ⟨_, rfl⟩
    have hl1 : 1 ≤ l := by omega
    have hl5 : l ≤ 5 := by omega
    have HZ := Lib.hid h
    have HL := Lib.hid hlen
    rw [← hlen]
    clear h hl hlen
    have hz0 : ¬ l < 1 := by omega
    have hz5 : ¬ 5 < l := by omega
    have hz0' : ¬ (l : Int) < 1 := by omega
    have hz5' : ¬ 5 < (l : Int) := by omega
    go_enter Tryd.func30, Tryd.ntmps30
    go_wp2_with fail
    go_loopw [4, 17] (fun s4 s17 wr => ∃ (i : Nat) (p : List Nat) (T : ByteArray), i ≤ l ∧ s17 = .int .i64 (i : Int) ∧ s4 = .string T ∧ T.size ≤ 3 * i ∧ Hid (T = txt p) ∧ Hid (p.length = i) ∧ Hid (zs.take i = zz p) ∧ Hid (Ns p) ∧ Hid (Below w.heap.size w wr)) (fun _ s17 _ => l - (intOf s17).toNat)
    case atStart => exact ⟨0, [], ⟨#[]⟩, by omega, rfl, rfl, by decide, rfl, rfl, rfl, Ns.nil, Below.refl _ _⟩
    case round =>
      obtain ⟨i, p, T, hi, rfl, rfl, hsz, hT, hp, htk, hns, hbl⟩ := hrel
      by_cases hlt : i < l
      · have hrd := HZ.out.below hbl.out
        obtain ⟨b, o, rfl, hc⟩ := hrd.atZ (i := i) (by have := HL.out; omega)
        obtain ⟨z, hz⟩ : ∃ z, z = zs.getD i 0 := ⟨_, rfl⟩
        rw [← hz] at hc
        clear hrd
        have hlt2 : (i : Int) < (l : Int) := by omega
        by_cases hbad : z < 1 ∨ 99 < z
        · have HE : Hid (FmtPost zs (.returned (.tuple #[.string ⟨#[]⟩, .int .i64 64]))) := .inr ⟨part_bad (i := i) (by have := HL.out; omega) (by rw [← hz]; exact hbad), rfl⟩
          clear hz
          by_cases hi0 : i = 0
          · subst hi0
            rw [Nat.add_zero] at hc
            rcases hbad with hb | hb
            · go_wp2_with fail
              go_ret2
              exact ⟨HE.out, hbl.out⟩
            · have hd : ¬ z < 1 := by omega
              go_wp2_with fail
              go_ret2
              exact ⟨HE.out, hbl.out⟩
          rcases hbad with hb | hb
          · go_wp2_with fail
            go_ret2
            exact ⟨HE.out, hbl.out⟩
          · have hd : ¬ z < 1 := by omega
            go_wp2_with fail
            go_ret2
            exact ⟨HE.out, hbl.out⟩
        · obtain ⟨n, hn⟩ : ∃ n : Nat, z = (n : Int) := ⟨z.toNat, by omega⟩
          have hn1 : 1 ≤ n := by omega
          have hn2 : n ≤ 99 := by omega
          have hd1 : ¬ z < 1 := by omega
          have hd2 : ¬ 99 < z := by omega
          have hz0 : 0 ≤ z := by omega
          have htk2 : zs.take (i + 1) = zz (p ++ [n]) := by rw [take_succ_getD (by have := HL.out; omega), htk.out, zz_snoc, ← hz, hn]
          have HTK := Lib.hid htk2
          have HNS : Hid (Ns (p ++ [n])) := hns.out.append (Ns.mk ⟨hn1, hn2⟩ Ns.nil)
          have HPL : Hid ((p ++ [n]).length = i + 1) := by unfold Hid; rw [List.length_append, hp.out]; rfl
          have C1 := Lib.hid (fun w => byte_str w (48 + z / 10) (n / 10) (by omega) (by omega))
          have C2 := Lib.hid (fun w => byte_str w (48 + z % 10) (n % 10) (by omega) (by omega))
          have HTT := txt_tw (p := p) (n := n) (by omega)
          have HNZ := Lib.hid hn
          have hb10 : (48 + z / 10) ≤ 57 := by omega
          have hb1 : (48 + z % 10) ≤ 57 := by omega
          clear hbad hz htk2 hn
          by_cases h0 : 0 < i
          · have hne : p ≠ [] := fun e => by have := hp.out; rw [e] at this; simp at this; omega
            by_cases h9 : 9 < z
            · have HT2 : Hid (T ++ (⟨#[46]⟩ : ByteArray) ++ (⟨#[dg (n / 10)]⟩ : ByteArray) ++ (⟨#[dg (n % 10)]⟩ : ByteArray) = txt (p ++ [n])) := by unfold Hid; rw [hT.out]; exact HTT.2.1 hne (by have := HNZ.out; omega)
              have c1 := C1.out wr
              have c2 := C2.out (wr.alloc (.cells #[.int .u8 (48 + z / 10)] 5))
              rw [World.size_alloc] at c2
              have HB : Hid (Below w.heap.size w ((wr.alloc (.cells #[.int .u8 (48 + z / 10)] 5)).alloc (.cells #[.int .u8 (48 + z % 10)] 5))) := keep (keep hbl.out (below_new _ _)) (below_new _ _)
              clear HTT hne
              go_wp2_with fail
              go_roundw
              case rel => exact ⟨i + 1, p ++ [n], _, by omega, by go_num, rfl, by have e46 : (⟨#[46]⟩ : ByteArray).size = 1 := rfl; have ed : ∀ k, (⟨#[dg k]⟩ : ByteArray).size = 1 := fun _ => rfl; simp only [ByteArray.size_append, ed]; omega, HT2.out, HPL, HTK, HNS, HB.out⟩
              case measure => simp [intOf]; omega
            · have HT2 : Hid (T ++ (⟨#[46]⟩ : ByteArray) ++ (⟨#[dg (n % 10)]⟩ : ByteArray) = txt (p ++ [n])) := by unfold Hid; rw [hT.out]; exact HTT.2.2 hne (by have := HNZ.out; omega)
              have c2 := C2.out wr
              have HB : Hid (Below w.heap.size w (wr.alloc (.cells #[.int .u8 (48 + z % 10)] 5))) := keep hbl.out (below_new _ _)
              have hi0 : ((i : Int) == 0) = false := beq_eq_false_iff_ne.2 (by omega)
              clear HTT hne
              go_wp2_with fail
              go_roundw
              case rel => exact ⟨i + 1, p ++ [n], _, by omega, by go_num, rfl, by have e46 : (⟨#[46]⟩ : ByteArray).size = 1 := rfl; have ed : ∀ k, (⟨#[dg k]⟩ : ByteArray).size = 1 := fun _ => rfl; simp only [ByteArray.size_append, ed]; omega, HT2.out, HPL, HTK, HNS, HB.out⟩
              case measure => simp [intOf]; omega
          · obtain rfl : i = 0 := by omega
            rw [Nat.add_zero] at hc
            obtain rfl : p = [] := List.eq_nil_of_length_eq_zero hp.out
            have HT2 : Hid (T ++ (⟨#[dg (n / 10)]⟩ : ByteArray) ++ (⟨#[dg (n % 10)]⟩ : ByteArray) = txt [n]) := by
              have e1 : T ++ (⟨#[dg (n / 10)]⟩ : ByteArray) = ⟨#[dg (n / 10)]⟩ := by rw [hT.out]; exact bs_app [] [dg (n / 10)]
              unfold Hid
              rw [e1]
              exact HTT.1 rfl
            have c1 := C1.out wr
            have c2 := C2.out (wr.alloc (.cells #[.int .u8 (48 + z / 10)] 5))
            rw [World.size_alloc] at c2
            have HB : Hid (Below w.heap.size w ((wr.alloc (.cells #[.int .u8 (48 + z / 10)] 5)).alloc (.cells #[.int .u8 (48 + z % 10)] 5))) := keep (keep hbl.out (below_new _ _)) (below_new _ _)
            clear HTT
            by_cases h9 : 9 < z
            all_goals
              go_wp2_with fail
              go_roundw
              case rel => exact ⟨1, [n], _, by omega, by go_num, rfl, by have e46 : (⟨#[46]⟩ : ByteArray).size = 1 := rfl; have ed : ∀ k, (⟨#[dg k]⟩ : ByteArray).size = 1 := fun _ => rfl; simp only [ByteArray.size_append, ed]; omega, HT2.out, HPL, HTK, HNS, HB.out⟩
              case measure => simp [intOf]; omega
      · obtain rfl : i = l := by omega
        have HE : Hid (FmtPost zs (.returned (.tuple #[.string T, .int .i64 0]))) := by
          refine .inl ⟨p, ⟨by rw [hp.out]; exact hl1, by rw [hp.out]; exact hl5, hns.out⟩, ?_, by rw [hT.out]⟩
          rw [← htk.out, HL.out, List.take_length]
        go_wp2_with fail
        go_ret2
        exact ⟨HE.out, hbl.out⟩
  · have HE : Hid (FmtPost zs (.returned (.tuple #[.string ⟨#[]⟩, .int .i64 64]))) := .inr ⟨fun p hp e => hl (by rw [e, zz_length]; exact ⟨hp.1, hp.2.1⟩), rfl⟩
    obtain ⟨l, hlen⟩ : ∃ l, l = zs.length := ⟨_, rfl⟩
    rw [← hlen] at hl ⊢
    clear h hlen
    by_cases h0 : l < 1
    · go_enter Tryd.func30, Tryd.ntmps30
      go_wp2_with fail
      go_ret2
      exact ⟨HE.out, Below.refl _ _⟩
    · have hz5 : 5 < l := by omega
      go_enter Tryd.func30, Tryd.ntmps30
      go_wp2_with fail
      go_ret2
      exact ⟨HE.out, Below.refl _ _⟩
end Go.Proofs.YtkodfmpaeemaiaaDoor.C6
