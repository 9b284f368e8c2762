/-
  Interest: the reference's accrued.
-/
import Derived.Test.YtcfejphpflafiaaIX6
import Derived.Test.YtcfejphpflafiaaIB
namespace Go.Proofs.Ytcfejphpflafiaa
open Go.RowKit Nd

/-- The bound of the sum of the rates of d days. -/
def KA (k : Nat) (d : Int) : Nat := d.toNat * (k + 10) + 1
theorem KA_step {k : Nat} {c e f : Int} (h1 : f ≤ c) (h2 : c < e) : KA k (c - f) + (k + 8) + 1 ≤ KA k (e - f) := by
  unfold KA
  have h3 : (c - f).toNat + 1 ≤ (e - f).toNat := by omega
  have h4 : ((c - f).toNat + 1) * (k + 10) ≤ (e - f).toNat * (k + 10) := Nat.mul_le_mul_right _ h3
  rw [Nat.add_mul] at h4
  omega
theorem KA_le {k : Nat} {d : Int} (h : d ≤ 1048576) (hk : k ≤ 1000) : KA k d ≤ 1059061761 := by
  unfold KA
  have : d.toNat * (k + 10) ≤ 1048576 * 1010 := Nat.mul_le_mul (by omega) (by omega)
  omega
theorem accT_jump {l : List St} {f c e : Int} (h1 : f ≤ c) (h2 : c < e) (h : ∀ j, j < l.length → ¬ (c < (l.getD j s0).fr ∧ (l.getD j s0).fr < e)) : accT (slQ l) f c + rq c 0 (slQ l) * ((e - c : Int) : Rat) = accT (slQ l) f e := by
  rw [← accT_add (slQ l) h1 (show c ≤ e by omega), accT_const (slQ l) (show c ≤ e by omega) (rq c 0 (slQ l))]
  intro d h3 h4
  refine rq_same h3 _ _ ?_
  intro x hx
  obtain ⟨s, hs, rfl⟩ := List.mem_map.1 hx
  obtain ⟨j, hj, rfl⟩ := List.getElem_of_mem hs
  have := h j hj
  rw [List.getD_eq_getElem?_getD, List.getElem?_eq_getElem hj, Option.getD_some] at this
  show ¬ (c < (l[j]).fr ∧ (l[j]).fr ≤ d)
  omega

set_option maxRecDepth 20000 in
set_option maxHeartbeats 8000000 in
theorem accrued_any (l : List St) (f t : Int) (n k : Nat) (A : Option Addr) (cap : Nat) (w : World) (hn : l.length = n) (hm : n ≤ 1000000000) (hf : Fits l k) (hf0 : 0 ≤ f) (hft : f ≤ t) (htd : t ≤ 1048576) (hx : Sds w A l) :
    Calls Try.prog 42 #[.slice A n cap, .int .i64 f, .int .i64 t] w fun e w' => ∃ z, e = .returned (.agg #[.bool z.neg, .string z.num, .string z.den]) ∧ Val z (accT (slQ l) f t) (KA k (t - f)) ∧ Chg [] w w' := by
  have HLOW : Hid (0 < l.length → ∃ g o, A = some ⟨g, o, none⟩ ∧ g < w.heap.size) := Lib.hid hx.form
  obtain ⟨b6, b7, hch⟩ := box2z w
  replace hx := hx.keep0 hch
  have HN := Lib.hid hn
  have HF := Lib.hid hf
  have HF0 := Lib.hid hf0
  have HFT := Lib.hid hft
  clear hn hf hf0 hft
  go_enter Try.func42, Try.ntmps42
  have b6c0 := b6.c0
  have b6c1 := b6.c1
  have b6c2 := b6.c2
  have b6f0 := b6.f0
  have b6f1 := b6.f1
  have b6f2 := b6.f2
  have b6l := b6.lt
  have b7c0 := b7.c0
  have b7c1 := b7.c1
  have b7c2 := b7.c2
  have b7f0 := b7.f0
  have b7f1 := b7.f1
  have b7f2 := b7.f2
  have b7l := b7.lt
  go_wp2_with fail
  clear b6c0 b6c1 b6c2 b6f0 b6f1 b6f2 b6l b7c0 b7c1 b7c2 b7f0 b7f1 b7f2 b7l
  go_loopw [1] (fun cv wr => ∃ (c : Int) (z : Q3), cv = .int .i64 c ∧ f ≤ c ∧ c ≤ t ∧ Val z (accT (slQ l) f c) (KA k (c - f)) ∧ Blk3 wr w.heap.size (.bool false) (.string ⟨#[]⟩) (.string ⟨#[]⟩) ∧ Blk3 wr (w.heap.size + 1) (.bool z.neg) (.string z.num) (.string z.den) ∧ Sds wr A l ∧ Chg [] w wr) (fun cv _ => (t - intOf cv).toNat)
  case atStart => exact ⟨f, q0, rfl, Int.le_refl _, HFT.out, by rw [accT_self]; exact Val_zeroK (by unfold KA; omega), b6, b7, hx, hch⟩
  case round =>
    clear hx hch b6 b7
    obtain ⟨c, z, rfl, hfc, hct, hz, b6, b7, hx, hch⟩ := hrel
    have HZ := Lib.hid hz
    have HFC := Lib.hid hfc
    have c0 : 0 ≤ c := by have := HF0.out; omega
    clear hz hfc
    by_cases hlt : c < t
    · have HX := Lib.hid hx
      have H6 := Lib.hid b6
      have H7 := Lib.hid b7
      have HCH := Lib.hid hch
      clear hx b6 b7 hch
      obtain ⟨wo, hwo⟩ : ∃ wo, wo = wr := ⟨_, rfl⟩
      subst hwo
      go_wp2_with fail
      go_loopw [8, 9] (fun ev iv w2 => ∃ (i : Nat) (e : Int), i ≤ n ∧ iv = .int .i64 i ∧ ev = .int .i64 e ∧ c < e ∧ e ≤ t ∧ (∀ j, j < i → ¬ (c < (l.getD j s0).fr ∧ (l.getD j s0).fr < e)) ∧ w2 = wo) (fun _ iv _ => n - (intOf iv).toNat)
      case atStart => exact ⟨0, t, Nat.zero_le _, rfl, rfl, hlt, Int.le_refl _, fun j h => absurd h (by omega), rfl⟩
      case round =>
        obtain ⟨i, e, hi, rfl, rfl, hce, het, hno, hw2⟩ := hrel
        subst hw2
        have HNO := Lib.hid hno
        clear hno
        by_cases hin : i < n
        · obtain ⟨g, o, rfl, hgl⟩ := HLOW.out (by rw [HN.out]; omega)
          have hc := HX.out.at_ (j := i) (by rw [HN.out]; exact hin)
          have HNX : Hid (∀ e', e' ≤ e → ¬ (c < (l.getD i s0).fr ∧ (l.getD i s0).fr < e') → ∀ j, j < i + 1 → ¬ (c < (l.getD j s0).fr ∧ (l.getD j s0).fr < e')) := Lib.hid fun e' h1 h2 j hj => by
            by_cases hji : j = i
            · rw [hji]; exact h2
            · have := HNO.out j (by omega); omega
          obtain ⟨s, HS⟩ := name_it (l.getD i s0)
          rw [HS.out] at hc HNX
          have hca := hc.a
          have i1 : (0 : Int) ≤ (i : Int) := by omega
          have i2 : (i : Int) < (n : Int) := by omega
          clear hc
          cases h1 : decide (c < s.fr) with
          | false =>
            have h3 := Lib.hid (HNX.out e (Int.le_refl _) (fun h => absurd h.1 (of_decide_eq_false h1)))
            go_wp2_with fail
            go_roundw
            case rel => exact ⟨i + 1, e, by omega, by go_num, rfl, hce, het, h3.out, trivial⟩
            case measure => simp [intOf]; omega
          | true =>
            cases h2 : decide (s.fr < e) with
            | false =>
              have h3 := Lib.hid (HNX.out e (Int.le_refl _) (fun h => absurd h.2 (of_decide_eq_false h2)))
              go_wp2_with fail
              go_roundw
              case rel => exact ⟨i + 1, e, by omega, by go_num, rfl, hce, het, h3.out, trivial⟩
              case measure => simp [intOf]; omega
            | true =>
              have h4 := of_decide_eq_true h1
              have h5 := of_decide_eq_true h2
              have h3 := Lib.hid (HNX.out s.fr (Int.le_of_lt h5) (fun h => absurd h.2 (Int.lt_irrefl _)))
              clear h4 h5
              go_wp2_with fail
              go_roundw
              case rel => exact ⟨i + 1, s.fr, by omega, by go_num, rfl, of_decide_eq_true h1, Int.le_of_lt (Int.lt_of_lt_of_le (of_decide_eq_true h2) het), h3.out, trivial⟩
              case measure => simp [intOf]; omega
        · have hjump := Lib.hid (accT_jump HFC.out hce (fun j hj => HNO.out j (by rw [HN.out] at hj; omega)))
          have hk1 := Lib.hid (KA_step (k := k) HFC.out hce)
          have hk2 := Lib.hid (KA_le (k := k) (d := e - f) (by have := HF0.out; omega) HF.out.le)
          have HRT := Lib.hid (fun w h => rrate_any l c n k A cap w HN.out hm HF.out h)
          obtain ⟨q, HQ⟩ := name_it (rq c 0 (slQ l))
          rw [HQ.out] at HRT hjump
          obtain ⟨D, HD⟩ := name_it (e - c)
          rw [HD.out] at hjump
          have hwr : IntKind.i64.wrap (e - c) = D := by rw [HD.out, IntKind.wrap_i64]; have := HD.out; omega
          have hD1 : 0 < D := by rw [← HD.out]; omega
          have hD2 : D ≤ 1048576 := by rw [← HD.out]; omega
          obtain ⟨a1, HA1⟩ := name_it (accT (slQ l) f c)
          rw [HA1.out] at hjump HZ
          obtain ⟨K1, HK1⟩ := name_it (KA k (c - f))
          rw [HK1.out] at hk1 HZ
          have hx := HX.out
          have b6 := H6.out
          have b7 := H7.out
          have hch := HCH.out
          go_wp2_with fail
          have c8 : Chg [] wr wr.drew := (Chg.refl _ _).drew
          replace b6 := b6.keep c8 (by simp)
          replace b7 := b7.keep c8 (by simp)
          replace hx := hx.keep0 c8
          replace hch := hch.then c8
          clear c8
          have hwl : w.heap.size + 1 < wr.drew.heap.size := b7.lt
          have b7c0 := b7.c0
          have b7c1 := b7.c1
          have b7c2 := b7.c2
          have b7f0 := b7.f0
          have b7f1 := b7.f1
          have b7f2 := b7.f2
          have b7l := b7.lt
          go_region_with (first
            | (go_at_call 37
               (with_reducible refine (HRT.out _ hx).mono ?_)
               rintro e w1 ⟨y1, rfl, hy1, c1⟩
               have HY1 := Lib.hid hy1
               clear b7c0 b7c1 b7c2 b7f0 b7f1 b7f2 b7l
               replace b6 := b6.keep0 c1
               replace b7 := b7.keep0 c1
               replace hx := hx.keep0 c1
               replace hch := hch.then c1
               clear c1 hy1
               have b7c0 := b7.c0
               have b7c1 := b7.c1
               have b7c2 := b7.c2
               have b7f0 := b7.f0
               have b7f1 := b7.f1
               have b7f2 := b7.f2
               have b7l := b7.lt
               skip)
            | (go_at_call 43
               (with_reducible refine (rIntV D _ (by omega) (by omega)).mono ?_)
               rintro e w2 ⟨y2, rfl, hy2, c1⟩
               have HY2 := Lib.hid hy2
               clear b7c0 b7c1 b7c2 b7f0 b7f1 b7f2 b7l
               replace b6 := b6.keep0 c1
               replace b7 := b7.keep0 c1
               replace hx := hx.keep0 c1
               replace hch := hch.then c1
               clear c1 hy2
               have b7c0 := b7.c0
               have b7c1 := b7.c1
               have b7c2 := b7.c2
               have b7f0 := b7.f0
               have b7f1 := b7.f1
               have b7f2 := b7.f2
               have b7l := b7.lt
               skip)
            | (go_at_call 40
               (with_reducible refine (rTimes_any y1 y2 q (D : Rat) k 8 _ HY1.out HY2.out (by have := HF.out.le; omega)).mono ?_)
               rintro e w3 ⟨y3, rfl, hy3, c1⟩
               have HY3 := Lib.hid hy3
               clear b7c0 b7c1 b7c2 b7f0 b7f1 b7f2 b7l
               replace b6 := b6.keep0 c1
               replace b7 := b7.keep0 c1
               replace hx := hx.keep0 c1
               replace hch := hch.then c1
               clear c1 hy3
               have b7c0 := b7.c0
               have b7c1 := b7.c1
               have b7c2 := b7.c2
               have b7f0 := b7.f0
               have b7f1 := b7.f1
               have b7f2 := b7.f2
               have b7l := b7.lt
               skip)
            | (go_at_call 54
               (with_reducible refine (rPlus_any z y3 a1 (q * (D : Rat)) K1 (k + 8) _ HZ.out HY3.out (by have := hk1.out; have := hk2.out; omega)).mono ?_)
               rintro e w4 ⟨y4, rfl, hy4, c1⟩
               have HY4 := Lib.hid hy4
               clear b7c0 b7c1 b7c2 b7f0 b7f1 b7f2 b7l
               replace b6 := b6.keep0 c1
               replace b7 := b7.keep0 c1
               replace hx := hx.keep0 c1
               replace hch := hch.then c1
               clear c1 hy4
               have b7c0 := b7.c0
               have b7c1 := b7.c1
               have b7c2 := b7.c2
               have b7f0 := b7.f0
               have b7f1 := b7.f1
               have b7f2 := b7.f2
               have b7l := b7.lt
               skip)
            | fail)
          all_goals
            clear b7c0 b7c1 b7c2 b7f0 b7f1 b7f2 b7l
            have HV : Hid (Val y4 (accT (slQ l) f e) (KA k (e - f))) := Lib.hid (by
              have := HY4.out
              rw [hjump.out] at this
              exact this.mono hk1.out)
            have S := b7.store (.bool y4.neg) (.string y4.num) (.string y4.den)
            have b6s := b6.st2 (show w.heap.size ≠ w.heap.size + 1 by omega) (.bool y4.neg) (.string y4.num) (.string y4.den)
            have hxs := hx.keepL HLOW.out ((Chg.refl [w.heap.size + 1] w4).store3 (g := w.heap.size + 1) (.inl (by simp)) (.bool y4.neg) (.string y4.num) (.string y4.den)) (fun x hx => by simp at hx; omega)
            have hchs := hch.store3 (g := w.heap.size + 1) (.inr (by omega)) (.bool y4.neg) (.string y4.num) (.string y4.den)
            have hfe : f ≤ e := by have := HFC.out; omega
            clear b6 b7 hx hch
            go_wp2_with fail
            go_roundw
            case rel => exact ⟨e, y4, rfl, hfe, het, HV.out, b6s, S, hxs, hchs⟩
            case measure => simp [intOf]; omega
    · obtain rfl : c = t := by omega
      have b7c0 := b7.c0
      have b7c1 := b7.c1
      have b7c2 := b7.c2
      have b7f0 := b7.f0
      have b7f1 := b7.f1
      have b7f2 := b7.f2
      have b7l := b7.lt
      have b6c0 := b6.c0
      have b6c1 := b6.c1
      have b6c2 := b6.c2
      have b6f0 := b6.f0
      have b6f1 := b6.f1
      have b6f2 := b6.f2
      have b6l := b6.lt
      go_wp2_with fail
      have S := b6.store (.bool z.neg) (.string z.num) (.string z.den)
      exact bodyPost_ret (v := .agg #[.bool z.neg, .string z.num, .string z.den]) (by simp [results, Try.results42, go_sem, S.c0, S.c1, S.c2]) rfl ⟨z, rfl, HZ.out, hch.store3 (.inr (Nat.le_refl _)) _ _ _⟩
end Go.Proofs.Ytcfejphpflafiaa
