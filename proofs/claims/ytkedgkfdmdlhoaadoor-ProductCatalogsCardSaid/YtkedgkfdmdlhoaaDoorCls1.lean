import Derived.Test.YtkedgkfdmdlhoaaDoorCls0
/- Package classification: Format. -/
namespace Go.Proofs.YtkedgkfdmdlhoaaDoor.C6
open Go.RowKit Go.Sort

/-- parts as integers -/
def zz (p : List Nat) : List Int := p.map (fun n : Nat => (n : Int))
theorem zz_length (p : List Nat) : (zz p).length = p.length := by simp [zz]
theorem zz_snoc (p : List Nat) (n : Nat) : zz (p ++ [n]) = zz p ++ [(n : Int)] := by simp [zz]
theorem zz_inj {p q : List Nat} (h : zz p = zz q) : p = q := by
  unfold zz at h
  exact List.map_inj_right (fun x y e => by omega) |>.1 h
theorem zz_get {p : List Nat} {i : Nat} (hi : i < p.length) : (zz p).getD i 0 = ((p.getD i 0 : Nat) : Int) := by simp [zz, List.getD, hi]
theorem take_succ_getD {zs : List Int} {i : Nat} (hi : i < zs.length) : zs.take (i + 1) = zs.take i ++ [zs.getD i 0] := by
  rw [List.take_add_one, List.getElem?_eq_getElem hi]
  simp [List.getD, hi]
/-- what Format returns of integers -/
def FmtPost (zs : List Int) (e : Ending) : Prop :=
  (∃ p, Pts p ∧ zs = zz p ∧ e = .returned (.tuple #[.string (txt p), .int .i64 0])) ∨ ((∀ p, Pts p → zs ≠ zz p) ∧ e = .returned (.tuple #[.string ⟨#[]⟩, .int .i64 64]))
theorem sh_small {n : Nat} (h : n < 100) : (⟨(Lib.decDigits n).toArray⟩ : ByteArray) = ⟨(sh n).toArray⟩ := by rw [dec_sh h]
theorem part_bad {zs : List Int} {i : Nat} (hi : i < zs.length) (h : zs.getD i 0 < 1 ∨ 99 < zs.getD i 0) : ∀ p, Pts p → zs ≠ zz p := by
  intro p hp e
  subst e
  rw [zz_length] at hi
  rw [zz_get hi] at h
  have hm := hp.2.2 p[i] (List.getElem_mem hi)
  simp [List.getD, hi] at h
  omega
theorem cod_snoc {p : List Nat} (h : p ≠ []) (n : Nat) : cod (p ++ [n]) = cod p ++ [46] ++ sh n := by rw [cod_append _ h]; simp [rest]
theorem bs3 (a b c : List UInt8) : (⟨a.toArray⟩ : ByteArray) ++ (⟨b.toArray⟩ : ByteArray) ++ (⟨c.toArray⟩ : ByteArray) = ⟨(a ++ b ++ c).toArray⟩ := by rw [bs_app, bs_app]

set_option maxHeartbeats 8000000 in
theorem Format_v (ao : Option Addr) (cap : Nat) (zs : List Int) (w : World) (h : RdZ w ao cap zs) :
    Calls Tryd.prog 39 #[.slice ao zs.length cap] w fun e w' => FmtPost zs e ∧ w = w' := by
  by_cases hl : 1 ≤ zs.length ∧ zs.length ≤ 5
  · obtain ⟨l, hlen⟩ : ∃ l, l = zs.length := ⟨_, rfl⟩
    have hl1 : 1 ≤ l := by omega
    have hl5 : l ≤ 5 := by omega
    have HZ := Lib.hid h
    have HL := Lib.hid hlen
    rw [← hlen]
    clear h hl hlen
    have hz0 : ((l : Int) == 0) = false := beq_eq_false_iff_ne.2 (by omega)
    have hz5 : decide (5 < (l : Int)) = false := decide_eq_false (by omega)
    go_enter Tryd.func39, Tryd.ntmps39
    go_wp2_with fail
    go_loop [4, 17] (fun s4 s17 => ∃ (i : Nat) (p : List Nat) (T : ByteArray), i ≤ l ∧ s17 = .int .i64 (i : Int) ∧ s4 = .string T ∧ T.size ≤ 3 * i ∧ Hid (T = txt p) ∧ Hid (p.length = i) ∧ Hid (zs.take i = zz p) ∧ Hid (Ns p)) (fun _ s17 => l - (intOf s17).toNat)
    case atStart => exact ⟨0, [], ⟨#[]⟩, by omega, rfl, rfl, by decide, rfl, rfl, rfl, Ns.nil⟩
    case round =>
      obtain ⟨i, p, T, hi, rfl, rfl, hsz, hT, hp, htk, hns⟩ := hrel
      by_cases hlt : i < l
      · obtain ⟨b, o, rfl, hc⟩ := HZ.out.atZ (i := i) (by have := HL.out; omega)
        obtain ⟨z, hz⟩ : ∃ z, z = zs.getD i 0 := ⟨_, rfl⟩
        rw [← hz] at hc
        have hlt2 : (i : Int) < (l : Int) := by omega
        by_cases hbad : z < 1 ∨ 99 < z
        · have HE : Hid (FmtPost zs (.returned (.tuple #[.string ⟨#[]⟩, .int .i64 64]))) := .inr ⟨part_bad (i := i) (by have := HL.out; omega) (by rw [← hz]; exact hbad), rfl⟩
          clear hz
          have hb1 : (decide (z < 1) || decide (99 < z)) = true := by simpa using hbad
          rcases hbad with hb | hb
          · have hd : decide (z < 1) = true := decide_eq_true hb
            go_wp2_with fail
            go_ret2
            exact ⟨HE.out, rfl⟩
          · have hd : decide (z < 1) = false := decide_eq_false (by omega)
            have hd2 : decide (99 < z) = true := decide_eq_true hb
            go_wp2_with fail
            go_ret2
            exact ⟨HE.out, rfl⟩
        · obtain ⟨n, rfl⟩ : ∃ n : Nat, z = (n : Int) := ⟨z.toNat, by omega⟩
          have hn1 : 1 ≤ n := by omega
          have hn2 : n ≤ 99 := by omega
          have hd1 : decide ((n : Int) < 1) = false := decide_eq_false (by omega)
          have hd2 : decide (99 < (n : Int)) = false := decide_eq_false (by omega)
          have hI := Tryd.strconv_Itoa_small n (by omega)
          rw [dec_sh (by omega)] at hI
          have hshl := sh_len n
          obtain ⟨S, hS⟩ : ∃ S : ByteArray, S = ⟨(sh n).toArray⟩ := ⟨_, rfl⟩
          have hSs : S.size ≤ 2 := by rw [hS]; simpa [ByteArray.size] using hshl.2
          rw [← hS] at hI
          have HI := Lib.hid hI
          have HTK : Hid (zs.take (i + 1) = zz (p ++ [n])) := by
            unfold Hid
            rw [take_succ_getD (by have := HL.out; omega), htk.out, zz_snoc, ← hz]
          have HNS : Hid (Ns (p ++ [n])) := hns.out.append (Ns.mk ⟨hn1, hn2⟩ Ns.nil)
          have HPL : Hid ((p ++ [n]).length = i + 1) := by unfold Hid; rw [List.length_append, hp.out]; rfl
          clear hbad hz hI
          by_cases h0 : 0 < i
          · have HT2 : Hid (T ++ (⟨#[46]⟩ : ByteArray) ++ S = txt (p ++ [n])) := by
              unfold Hid
              rw [hT.out, hS]
              have hne : p ≠ [] := fun e => by have := hp.out; rw [e] at this; simp at this; omega
              have := cod_snoc hne n
              unfold txt
              rw [this]
              exact bs3 _ [46] _
            clear hS
            have hd3 : decide (0 < (i : Int)) = true := decide_eq_true (by omega)
            go_wp2_with fail
            refine (HI.out _).mono ?_; rintro e w' ⟨rfl, rfl⟩
            go_wp2_with fail
            go_round
            case rel => exact ⟨i + 1, p ++ [n], _, by omega, by go_num, rfl, by have e46 : (⟨#[46]⟩ : ByteArray).size = 1 := rfl; have e48 : (⟨#[48]⟩ : ByteArray).size = 1 := rfl; simp only [ByteArray.size_append]; omega, HT2.out, HPL, HTK, HNS⟩
            case measure => simp [intOf]; omega
          · obtain rfl : i = 0 := by omega
            rw [Nat.add_zero] at hc
            obtain rfl : p = [] := List.eq_nil_of_length_eq_zero hp.out
            by_cases h10 : n < 10
            · have HT2 : Hid ((⟨#[48]⟩ : ByteArray) ++ S = txt [n]) := by
                unfold Hid
                rw [hS, sh_one h10]
                refine (bs_app [48] _).trans ?_
                simp only [txt, cod, tw, rest, List.append_nil, List.cons_append, List.nil_append]
                rw [show n / 10 = 0 by omega, show n % 10 = n by omega]
                rfl
              clear hS
              have hd4 : decide ((n : Int) < 10) = true := decide_eq_true (by omega)
              go_wp2_with fail
              refine (HI.out _).mono ?_; rintro e w' ⟨rfl, rfl⟩
              go_wp2_with fail
              go_round
              case rel => exact ⟨1, [n], _, by omega, by go_num, rfl, by have e46 : (⟨#[46]⟩ : ByteArray).size = 1 := rfl; have e48 : (⟨#[48]⟩ : ByteArray).size = 1 := rfl; simp only [ByteArray.size_append]; omega, HT2.out, HPL, HTK, HNS⟩
              case measure => simp [intOf]; omega
            · have HT2 : Hid (T ++ S = txt [n]) := by
                unfold Hid
                rw [hT.out, hS, sh_two (by omega)]
                exact (bs_app [] _).trans (by simp [txt, cod, rest])
              clear hS
              have hd4 : decide ((n : Int) < 10) = false := decide_eq_false (by omega)
              go_wp2_with fail
              refine (HI.out _).mono ?_; rintro e w' ⟨rfl, rfl⟩
              go_wp2_with fail
              go_round
              case rel => exact ⟨1, [n], _, by omega, by go_num, rfl, by have e46 : (⟨#[46]⟩ : ByteArray).size = 1 := rfl; have e48 : (⟨#[48]⟩ : ByteArray).size = 1 := rfl; simp only [ByteArray.size_append]; omega, HT2.out, HPL, HTK, HNS⟩
              case measure => simp [intOf]; omega
      · obtain rfl : i = l := by omega
        have HE : Hid (FmtPost zs (.returned (.tuple #[.string T, .int .i64 0]))) := by
          refine .inl ⟨p, ⟨by rw [hp.out]; exact hl1, by rw [hp.out]; exact hl5, hns.out⟩, ?_, by rw [hT.out]⟩
          rw [← htk.out, HL.out, List.take_length]
        go_wp2_with fail
        go_ret2
        exact ⟨HE.out, rfl⟩
  · have HE : Hid (FmtPost zs (.returned (.tuple #[.string ⟨#[]⟩, .int .i64 64]))) := .inr ⟨fun p hp e => hl (by rw [e, zz_length]; exact ⟨hp.1, hp.2.1⟩), rfl⟩
    obtain ⟨l, hlen⟩ : ∃ l, l = zs.length := ⟨_, rfl⟩
    rw [← hlen] at hl ⊢
    clear h hlen
    by_cases h0 : l = 0
    · subst h0
      go_enter Tryd.func39, Tryd.ntmps39
      go_wp2_with fail
      go_ret2
      exact ⟨HE.out, rfl⟩
    · have hz0 : ((l : Int) == 0) = false := beq_eq_false_iff_ne.2 (by omega)
      have hz5 : decide (5 < (l : Int)) = true := decide_eq_true (by omega)
      go_enter Tryd.func39, Tryd.ntmps39
      go_wp2_with fail
      go_ret2
      exact ⟨HE.out, rfl⟩
end Go.Proofs.YtkedgkfdmdlhoaaDoor.C6
