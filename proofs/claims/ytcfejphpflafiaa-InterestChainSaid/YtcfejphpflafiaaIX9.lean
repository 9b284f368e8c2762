/-
  Interest: the reference's Compound.
-/
import Derived.Test.YtcfejphpflafiaaIX8
namespace Go.Proofs.Ytcfejphpflafiaa
open Go.RowKit Nd

/-- The bound of the principal with interest. -/
def KC (kp k : Nat) (d : Int) (j : Nat) : Nat := kp + d.toNat * (k + 10) + 11 * j
theorem KC_step {kp k : Nat} {f s e : Int} {j : Nat} (h1 : f ≤ s) (h2 : s ≤ e) : KC kp k (s - f) j + (KA k (e - s) + 10) = KC kp k (e - f) (j + 1) := by
  unfold KC KA
  have h3 : (e - f).toNat = (s - f).toNat + (e - s).toNat := by omega
  rw [h3, Nat.add_mul]; omega
theorem KC_le {kp k : Nat} {d : Int} {j : Nat} (h : d ≤ 1048576) (hk : k ≤ 1000) (hj : j ≤ 64) (hkp : kp ≤ 1000000000) : KC kp k d j ≤ 2059062500 := by
  unfold KC
  have : d.toNat * (k + 10) ≤ 1048576 * 1010 := Nat.mul_le_mul (by omega) (by omega)
  omega
theorem KC_le2 {kp k : Nat} {d : Int} {j : Nat} (h : d ≤ 1048576) (hk : k ≤ 1000) (hj : j ≤ 64) : KC kp k d j ≤ kp + 1059062464 := by
  unfold KC
  have : d.toNat * (k + 10) ≤ 1048576 * 1010 := Nat.mul_le_mul (by omega) (by omega)
  omega
theorem KC_pos {kp k : Nat} {d : Int} {j : Nat} (h : 1 ≤ kp) : 1 ≤ KC kp k d j := by unfold KC; omega
theorem bd_fac {a : Rat} {b : Int} {K : Nat} (h : Bd K a) (h1 : 1 ≤ b) (h2 : b ≤ 1000) : Bd (K + 10) (1 + a / (b : Rat)) := by
  have h3 : Bd 8 (b : Rat) := bd_int8 (by omega) (by omega)
  have h4 : Bd (K + 8) (a / (b : Rat)) := bd_div h h3 (rat_ne h1)
  have := one_bd.add h4
  exact this.mono (by omega)
theorem terms_two {p : Rat} {L : Stp} {f t b n : Int} (h : intvE p L f t b n = 0) : ((t - f) / n > 64 → termsE p L f t b n = 2) ∧ ((t - f) / n = 64 → 0 < (t - f) % n → termsE p L f t b n = 2) ∧ ((t - f) / n = 64 → ¬ 0 < (t - f) % n → termsE p L f t b n = 0) ∧ ((t - f) / n < 64 → termsE p L f t b n = 0) := by
  rw [terms_at h]
  unfold perN
  refine ⟨fun h1 => ?_, fun h1 h2 => ?_, fun h1 h2 => ?_, fun h1 => ?_⟩
  · rw [if_pos]; split <;> omega
  · rw [if_pos h2, if_pos (by omega)]
  · rw [if_neg h2, if_neg (by omega)]
  · rw [if_neg]; split <;> omega
theorem cmpV_two {p : Rat} {L : Stp} {f t b n : Int} (h : termsE p L f t b n = 2) : cmpV p L f t b n = 0 := by unfold cmpV; rw [h]; rfl

set_option maxRecDepth 20000 in
set_option maxHeartbeats 16000000 in
theorem rcompound_any (x : Q3) (p : Rat) (kp : Nat) (l : List St) (f t b n : Int) (m k : Nat) (A : Option Addr) (cap : Nat) (w : World) (hp : Num x p kp) (hkp : kp ≤ 1000000000) (hn : l.length = m) (hm : m ≤ 1000000000) (hf : Fits l k) (hn2 : n ≤ 9223372036854775807) (hx : Sds w A l) :
    Calls Try.prog 29 #[.agg #[.bool x.neg, .string x.num, .string x.den], .slice A m cap, .int .i64 f, .int .i64 t, .int .i64 b, .int .i64 n] w fun e w' => ∃ z, e = .returned (.tuple #[.agg #[.bool z.neg, .string z.num, .string z.den], .int .i64 (termsE p (slQ l) f t b n)]) ∧ Val z (cmpV p (slQ l) f t b n) (kp + 2059062510) ∧ Chg [] w w' := by
  have HLOW : Hid (0 < l.length → ∃ g o, A = some ⟨g, o, none⟩ ∧ g < w.heap.size) := Lib.hid hx.form
  have hch : Chg [] w ((w.alloc (.cells #[.bool x.neg, .string x.num, .string x.den] 29)).alloc (.cells #[.bool false, .string ⟨#[]⟩, .string ⟨#[]⟩] 29)) := ((Chg.refl _ _).alloc _).alloc _
  have b6 := (Blk3.alloc w (.bool x.neg) (.string x.num) (.string x.den) 29).keep ((Chg.refl [] _).alloc (.cells #[.bool false, .string ⟨#[]⟩, .string ⟨#[]⟩] 29)) (by simp)
  have b12 := Blk3.alloc (w.alloc (.cells #[.bool x.neg, .string x.num, .string x.den] 29)) (.bool false) (.string ⟨#[]⟩) (.string ⟨#[]⟩) 29
  rw [World.size_alloc] at b12
  have hx1 := hx.keep0 hch
  have HIV := Lib.hid (fun w h => intv_any x p kp l f t b n m k A cap w hp (by omega) hn hm hf hn2 h)
  obtain ⟨r, HR⟩ := name_it (termsE p (slQ l) f t b n)
  obtain ⟨v, HV⟩ := name_it (cmpV p (slQ l) f t b n)
  obtain ⟨ri, HRI⟩ := name_it (intvE p (slQ l) f t b n)
  rw [HRI.out] at HIV
  rw [HR.out, HV.out]
  have HN := Lib.hid hn
  have HF := Lib.hid hf
  have HP := Lib.hid hp
  have hz0 : Hid (Val q0 0 (kp + 2059062510)) := Lib.hid (Val_zeroK (by omega))
  clear hn hf hx hp
  by_cases hr0 : ri = 0
  · subst hr0
    obtain ⟨hc, hdf, hdt, hb, hn1, hft, -⟩ := intv_ok HRI.out
    obtain ⟨f1, f2⟩ := isd_yes hdf
    obtain ⟨t1, t2⟩ := isd_yes hdt
    have hb1 : 1 ≤ b := by omega
    have hb2 : b ≤ 1000 := by omega
    have HFT := Lib.hid hft
    have HB0 := Lib.hid (rat_ne hb1)
    have hmm : 0 ≤ t - f := by omega
    have h1 : (t - f).tmod n = (t - f) % n := Int.tmod_eq_emod_of_nonneg hmm
    have h2 : (t - f).tdiv n = (t - f) / n := Int.tdiv_eq_ediv_of_nonneg hmm
    have h3 : 0 ≤ (t - f) / n := Int.ediv_nonneg hmm (by omega)
    have h4 : (t - f) / n ≤ t - f := Int.ediv_le_self n hmm
    have h5 : 0 ≤ (t - f) % n := Int.emod_nonneg _ (by omega)
    have hn0 : (n == 0) = false := by simp; omega
    have HTW := Lib.hid (terms_two HRI.out)
    have HPN : Hid (64 < perN (t - f) n ↔ ((t - f) / n > 64 ∨ ((t - f) / n = 64 ∧ 0 < (t - f) % n))) := Lib.hid (by unfold perN; split <;> omega)
    obtain ⟨N, HNN⟩ := name_it (perN (t - f) n)
    have HRN : Hid (r = if 64 < N then 2 else 0) := Lib.hid (by rw [← HR.out, terms_at HRI.out, HNN.out])
    have hv : 64 < N → v = 0 := fun h => by rw [← HV.out]; exact cmpV_two (by rw [HR.out, HRN.out, if_pos h])
    have hv2 : ¬ 64 < N → v = p * (growth (slQ l) (b : Rat) f t n - 1) := fun h => by rw [← HV.out]; unfold cmpV; rw [if_pos (by rw [HR.out, HRN.out, if_neg h])]
    have H64 : Hid (¬ 64 < N → t - f ≤ 64 * n) := Lib.hid (fun h => per_le hn1 (by rw [HNN.out]; exact h))
    have HV1 := Lib.hid hv
    have HV2 := Lib.hid hv2
    rw [HNN.out] at HPN
    obtain ⟨q, HQ⟩ := name_it ((t - f) / n)
    obtain ⟨rm, HRM⟩ := name_it ((t - f) % n)
    rw [HQ.out] at h2 h3 h4 HPN
    rw [HRM.out] at h1 h5 HPN
    clear hc hdf hdt hb HR HV HRI hft HTW hv hv2 HNN HQ HRM
    go_enter Try.func29, Try.ntmps29
    have b6c0 := b6.c0
    have b6c1 := b6.c1
    have b6c2 := b6.c2
    have b6f0 := b6.f0
    have b6f1 := b6.f1
    have b6f2 := b6.f2
    have b6l := b6.lt
    go_wp2_with fail
    refine (HIV.out _ hx1).mono ?_
    rintro e w1 ⟨rfl, c1⟩
    clear b6c0 b6c1 b6c2 b6f0 b6f1 b6f2 b6l
    replace b6 := b6.keep0 c1
    replace b12 := b12.keep0 c1
    replace hch := hch.then c1
    have hx2 := hx1.keep0 c1
    clear c1 hx1
    go_upto_region 4 with fail
    obtain ⟨bN, HBN⟩ := name_it (decide (64 < N))
    have hbt : 64 < N → bN = true := fun h => by rw [← HBN.out]; exact decide_eq_true h
    have hbf : ¬ 64 < N → bN = false := fun h => by rw [← HBN.out]; exact decide_eq_false h
    have HBT := Lib.hid hbt
    have HBF := Lib.hid hbf
    clear hbt hbf
    go_cut [49] (fun v wx => wx = w1 ∧ v = .bool bN)
    case first =>
      by_cases hq : 64 < q
      · obtain rfl := HBT.out (HPN.out.2 (.inl hq))
        go_wp2_with fail
        go_meet
        exact ⟨rfl, rfl⟩
      · by_cases hq2 : q = 64
        · by_cases hr : 0 < rm
          · obtain rfl := HBT.out (HPN.out.2 (.inr ⟨hq2, hr⟩))
            go_wp2_with fail
            go_meet
            exact ⟨rfl, rfl⟩
          · obtain rfl := HBF.out (fun h => by have := HPN.out.1 h; omega)
            go_wp2_with fail
            go_meet
            exact ⟨rfl, rfl⟩
        · obtain rfl := HBF.out (fun h => by have := HPN.out.1 h; omega)
          go_wp2_with fail
          go_meet
          exact ⟨rfl, rfl⟩
    case rest =>
      obtain ⟨rfl, rfl⟩ := hcut
      clear HPN h1 h2 h3 h4 h5 hn0
      by_cases hN : 64 < N
      · have hr := HRN.out
        rw [if_pos hN] at hr
        have hv := HV1.out hN
        subst hr hv
        obtain rfl := HBT.out hN
        clear HV1 HV2 HRN H64 hN HBT HBF HBN
        have b12c0 := b12.c0
        have b12c1 := b12.c1
        have b12c2 := b12.c2
        have b12f0 := b12.f0
        have b12f1 := b12.f1
        have b12f2 := b12.f2
        have b12l := b12.lt
        go_wp2_with fail
        have S := b12.store (.bool false) (.string ⟨#[]⟩) (.string ⟨#[]⟩)
        exact bodyPost_ret (v := .tuple #[.agg #[.bool false, .string ⟨#[]⟩, .string ⟨#[]⟩], .int .i64 2]) (by simp [results, Try.results29, go_sem, S.c0, S.c1, S.c2]) rfl ⟨q0, rfl, hz0.out, hch.store3 (.inr (by omega)) _ _ _⟩
      · have hr := HRN.out
        rw [if_neg hN] at hr
        subst hr
        have HVE := Lib.hid (HV2.out (by omega))
        replace H64 := Lib.hid (H64.out (by omega))
        obtain rfl := HBF.out hN
        clear HV1 HV2 HRN hN HBT HBF HBN
        have b6c0 := b6.c0
        have b6c1 := b6.c1
        have b6c2 := b6.c2
        have b6f0 := b6.f0
        have b6f1 := b6.f1
        have b6f2 := b6.f2
        have b6l := b6.lt
        go_wp2_with fail
        have HX := Lib.hid hx2
        refine (rFixN x p kp _ HP.out (by omega)).mono ?_
        rintro e w2 ⟨y, rfl, hy, c1⟩
        have HY := Lib.hid hy
        clear b6c0 b6c1 b6c2 b6f0 b6f1 b6f2 b6l
        replace b6 := b6.keep0 c1
        replace b12 := b12.keep0 c1
        replace hch := hch.then c1
        have hx3 := HX.out.keep0 c1
        clear c1 hy
        have c2 : Chg [] w2 (w2.alloc (.cells #[.bool y.neg, .string y.num, .string y.den] 29)) := (Chg.refl _ _).alloc _
        have b15 := Blk3.alloc w2 (.bool y.neg) (.string y.num) (.string y.den) 29
        have hsz2 : w.heap.size + 1 < w2.heap.size := b12.lt
        replace b6 := b6.keep0 c2
        replace b12 := b12.keep0 c2
        replace hch := hch.then c2
        have hx4 := hx3.keep0 c2
        clear c2 hx3
        go_wp2_with fail
        go_loopw [2] (fun sv wr => ∃ (j : Nat) (z : Q3), sv = .int .i64 (min (f + j * n) t) ∧ j ≤ 64 ∧ Val z (p * gro (slQ l) (b : Rat) f t n j) (KC kp k (min (f + j * n) t - f) j) ∧ Blk3 wr w.heap.size (.bool x.neg) (.string x.num) (.string x.den) ∧ Blk3 wr (w.heap.size + 1) (.bool false) (.string ⟨#[]⟩) (.string ⟨#[]⟩) ∧ Blk3 wr w2.heap.size (.bool z.neg) (.string z.num) (.string z.den) ∧ Sds wr A l ∧ Chg [] w wr) (fun sv _ => (t - intOf sv).toNat)
        case atStart =>
          refine ⟨0, y, ?_, Nat.zero_le _, ?_, b6, b12, b15, hx4, hch⟩
          · have := HFT.out; simp; omega
          · have h1 : min (f + ((0 : Nat) : Int) * n) t = f := by have := HFT.out; simp; omega
            rw [h1]
            simp only [gro]
            rw [Rat.mul_one]
            exact HY.out.mono (by unfold KC; omega)
        case round =>
          clear hx4 hch b6 b12 b15
          obtain ⟨j, z, rfl, hj, hz, b6, b12, b15, hx, hch⟩ := hrel
          obtain ⟨J, HJ⟩ := name_it ((j : Int) * n)
          have HJ2 : Hid (((j : Int) + 1) * n = J + n) := Lib.hid (by rw [Int.add_mul, HJ.out]; omega)
          have HJ0 : 0 ≤ J := by rw [← HJ.out]; exact Int.mul_nonneg (by omega) (by omega)
          have HFAC : Hid (fac (slQ l) (b : Rat) f t n j = 1 + accT (slQ l) (min (f + J) t) (min (f + (J + n)) t) / (b : Rat)) := Lib.hid (by unfold fac; rw [HJ.out, HJ2.out])
          rw [HJ.out] at hz
          obtain ⟨s, HS⟩ := name_it (min (f + J) t)
          rw [HS.out] at HFAC hz
          rw [HJ.out, HS.out]
          have s1 : 0 ≤ s := by have := HS.out; omega
          have s2 : s ≤ t := by have := HS.out; omega
          have s3 : f ≤ s := by have := HS.out; have := HFT.out; omega
          by_cases hlt : s < t
          · obtain ⟨e, HE⟩ := name_it (min (s + n) t)
            have e1 : s < e := by have := HE.out; omega
            have e2 : e ≤ t := by have := HE.out; omega
            have hee : min (f + (J + n)) t = e := by have := HE.out; have := HS.out; omega
            have hj64 : j < 64 := rnd_lt hn1 (by rw [HJ.out]; have := HS.out; omega) H64.out
            have HAC := Lib.hid (fun w h => accrued_any l s e m k A cap w HN.out hm HF.out s1 (by omega) (by omega) h)
            obtain ⟨a, HA⟩ := name_it (accT (slQ l) s e)
            rw [HA.out] at HAC
            have HG : Hid (p * gro (slQ l) (b : Rat) f t n (j + 1) = p * gro (slQ l) (b : Rat) f t n j * (1 + a / (b : Rat))) := Lib.hid (by simp only [gro]; rw [HFAC.out, hee, HA.out]; grind)
            have HEE : Hid (min (f + ((j + 1 : Nat) : Int) * n) t = e) := Lib.hid (by rw [show ((j + 1 : Nat) : Int) = (j : Int) + 1 by omega, HJ2.out, hee])
            obtain ⟨P, HPG⟩ := name_it (p * gro (slQ l) (b : Rat) f t n j)
            rw [HPG.out] at HG hz
            obtain ⟨K1, HK1⟩ := name_it (KC kp k (s - f) j)
            obtain ⟨K2, HK2⟩ := name_it (KA k (e - s))
            have HK : Hid (K1 + K1 + K2 + 100 ≤ 34359738367) := Lib.hid (by
              have h1 := KC_le (kp := kp) (k := k) (d := s - f) (j := j) (by omega) HF.out.le hj hkp
              have h2 := KA_le (k := k) (d := e - s) (by omega) HF.out.le
              rw [HK1.out] at h1; rw [HK2.out] at h2; omega)
            have HKS : Hid (K1 + (K2 + 10) = KC kp k (e - f) (j + 1)) := Lib.hid (by rw [← HK1.out, ← HK2.out]; exact KC_step s3 (by omega))
            rw [HK1.out] at hz
            rw [HK2.out] at HAC
            have HZ := Lib.hid hz
            clear hee HFAC HS HJ2 HJ HPG HK1 HK2 hz HA
            have hcase : Hid ((n < t - s ∧ s + n = e) ∨ (¬ n < t - s ∧ e = t)) := Lib.hid (by have := HE.out; omega)
            clear HE
            go_upto_if 61 with fail
            go_cut [16] (fun ev wx => wx = wr ∧ ev = .int .i64 e)
            case first =>
              rcases hcase.out with ⟨h1, h2⟩ | ⟨h1, h2⟩
              · have hw : wrap64 (s + n) = e := by unfold wrap64; omega
                go_wp2_with fail
                go_meet
                exact ⟨rfl, rfl⟩
              · subst h2
                go_wp2_with fail
                go_meet
                exact ⟨rfl, rfl⟩
            case rest =>
              obtain ⟨hw, rfl⟩ := hcut
              subst hw
              clear hcase
              go_upto_region 11 with fail
              have c8 : Chg [] wc wc.drew := (Chg.refl _ _).drew
              replace b6 := b6.keep c8 (by simp)
              replace b12 := b12.keep c8 (by simp)
              replace b15 := b15.keep c8 (by simp)
              replace hx := hx.keep0 c8
              replace hch := hch.then c8
              clear c8
              have hwl : w2.heap.size < wc.drew.heap.size := b15.lt
              have b15c0 := b15.c0
              have b15c1 := b15.c1
              have b15c2 := b15.c2
              have b15f0 := b15.f0
              have b15f1 := b15.f1
              have b15f2 := b15.f2
              have b15l := b15.lt
              go_region_with (first
                | (go_at_call 42
                   (with_reducible refine (HAC.out _ hx).mono ?_)
                   rintro e wa ⟨y1, rfl, hy1, c1⟩
                   have HY1 := Lib.hid hy1
                   clear b15c0 b15c1 b15c2 b15f0 b15f1 b15f2 b15l
                   replace b6 := b6.keep0 c1
                   replace b12 := b12.keep0 c1
                   replace b15 := b15.keep0 c1
                   replace hx := hx.keep0 c1
                   replace hch := hch.then c1
                   clear c1 hy1
                   have b15c0 := b15.c0
                   have b15c1 := b15.c1
                   have b15c2 := b15.c2
                   have b15f0 := b15.f0
                   have b15f1 := b15.f1
                   have b15f2 := b15.f2
                   have b15l := b15.lt
                   skip)
                | (go_at_call 40
                   (with_reducible refine (rTimes_any z y1 P a K1 K2 _ HZ.out HY1.out (by have := HK.out; omega)).mono ?_)
                   rintro e wb ⟨y2, rfl, hy2, c1⟩
                   have HY2 := Lib.hid hy2
                   clear b15c0 b15c1 b15c2 b15f0 b15f1 b15f2 b15l
                   replace b6 := b6.keep0 c1
                   replace b12 := b12.keep0 c1
                   replace b15 := b15.keep0 c1
                   replace hx := hx.keep0 c1
                   replace hch := hch.then c1
                   clear c1 hy2
                   have b15c0 := b15.c0
                   have b15c1 := b15.c1
                   have b15c2 := b15.c2
                   have b15f0 := b15.f0
                   have b15f1 := b15.f1
                   have b15f2 := b15.f2
                   have b15l := b15.lt
                   skip)
                | (go_at_call 43
                   (with_reducible refine (rIntV b _ (by omega) (by omega)).mono ?_)
                   rintro e wc3 ⟨y3, rfl, hy3, c1⟩
                   have HY3 := Lib.hid hy3
                   clear b15c0 b15c1 b15c2 b15f0 b15f1 b15f2 b15l
                   replace b6 := b6.keep0 c1
                   replace b12 := b12.keep0 c1
                   replace b15 := b15.keep0 c1
                   replace hx := hx.keep0 c1
                   replace hch := hch.then c1
                   clear c1 hy3
                   have b15c0 := b15.c0
                   have b15c1 := b15.c1
                   have b15c2 := b15.c2
                   have b15f0 := b15.f0
                   have b15f1 := b15.f1
                   have b15f2 := b15.f2
                   have b15l := b15.lt
                   skip)
                | (go_at_call 39
                   (with_reducible refine (rOver_any y2 y3 (P * a) (b : Rat) (K1 + K2) 8 _ HY2.out HY3.out HB0.out (by have := HK.out; omega)).mono ?_)
                   rintro e wd ⟨y4, rfl, hy4, c1⟩
                   have HY4 := Lib.hid hy4
                   clear b15c0 b15c1 b15c2 b15f0 b15f1 b15f2 b15l
                   replace b6 := b6.keep0 c1
                   replace b12 := b12.keep0 c1
                   replace b15 := b15.keep0 c1
                   replace hx := hx.keep0 c1
                   replace hch := hch.then c1
                   clear c1 hy4
                   have b15c0 := b15.c0
                   have b15c1 := b15.c1
                   have b15c2 := b15.c2
                   have b15f0 := b15.f0
                   have b15f1 := b15.f1
                   have b15f2 := b15.f2
                   have b15l := b15.lt
                   skip)
                | (go_at_call 54
                   (with_reducible refine (rPlus_any z y4 P (P * a / (b : Rat)) K1 (K1 + K2 + 8) _ HZ.out HY4.out (by have := HK.out; omega)).mono ?_)
                   rintro e we ⟨y5, rfl, hy5, c1⟩
                   have HY5 := Lib.hid hy5
                   clear b15c0 b15c1 b15c2 b15f0 b15f1 b15f2 b15l
                   replace b6 := b6.keep0 c1
                   replace b12 := b12.keep0 c1
                   replace b15 := b15.keep0 c1
                   replace hx := hx.keep0 c1
                   replace hch := hch.then c1
                   clear c1 hy5
                   have b15c0 := b15.c0
                   have b15c1 := b15.c1
                   have b15c2 := b15.c2
                   have b15f0 := b15.f0
                   have b15f1 := b15.f1
                   have b15f2 := b15.f2
                   have b15l := b15.lt
                   skip)
                | fail)
              all_goals
                clear b15c0 b15c1 b15c2 b15f0 b15f1 b15f2 b15l
                have HV : Hid (Val y5 (p * gro (slQ l) (b : Rat) f t n (j + 1)) (KC kp k (e - f) (j + 1))) := Lib.hid (by
                  rw [HG.out]
                  have h1 := HY5.out.enc
                  have h2 := HZ.out.bd.mul (bd_fac HY1.out.bd hb1 hb2)
                  rw [HKS.out] at h2
                  rw [show P + P * a / (b : Rat) = P * (1 + a / (b : Rat)) by grind] at h1
                  exact ⟨h1, h2⟩)
                have S := b15.store (.bool y5.neg) (.string y5.num) (.string y5.den)
                have b6s := b6.st2 (show w.heap.size ≠ w2.heap.size by omega) (.bool y5.neg) (.string y5.num) (.string y5.den)
                have b12s := b12.st2 (show w.heap.size + 1 ≠ w2.heap.size by omega) (.bool y5.neg) (.string y5.num) (.string y5.den)
                have hxs := hx.keepL HLOW.out ((Chg.refl [w2.heap.size] we).store3 (g := w2.heap.size) (.inl (by simp)) (.bool y5.neg) (.string y5.num) (.string y5.den)) (fun x hx => by simp at hx; omega)
                have hchs := hch.store3 (g := w2.heap.size) (.inr (by omega)) (.bool y5.neg) (.string y5.num) (.string y5.den)
                clear b6 b12 b15 hx hch
                go_wp2_with fail
                go_roundw
                case rel => exact ⟨j + 1, y5, by rw [HEE.out], by omega, by rw [HEE.out]; exact HV.out, b6s, b12s, S, hxs, hchs⟩
                case measure => simp [intOf]; omega
          · obtain rfl : s = t := by omega
            have hg : Hid (p * gro (slQ l) (b : Rat) f s n j = p * growth (slQ l) (b : Rat) f s n) := Lib.hid (by rw [gro_growth hn1 (by rw [HJ.out]; have := HS.out; omega)])
            rw [hg.out] at hz
            have hk := KC_le2 (kp := kp) (k := k) (d := s - f) (j := j) (by omega) HF.out.le hj
            obtain ⟨K1, HK1⟩ := name_it (KC kp k (s - f) j)
            rw [HK1.out] at hz hk
            have HZ := Lib.hid hz
            clear hz hg HK1 HFAC HS HJ HJ2
            go_wp2_with fail
            clear hx
            have c8 : Chg [] wr wr.drew := (Chg.refl _ _).drew
            replace b6 := b6.keep c8 (by simp)
            replace b12 := b12.keep c8 (by simp)
            replace b15 := b15.keep c8 (by simp)
            replace hch := hch.then c8
            clear c8
            have hwl : w2.heap.size < wr.drew.heap.size := b15.lt
            have hwl6 : w.heap.size < w2.heap.size := by omega
            have b15c0 := b15.c0
            have b15c1 := b15.c1
            have b15c2 := b15.c2
            have b15f0 := b15.f0
            have b15f1 := b15.f1
            have b15f2 := b15.f2
            have b15l := b15.lt
            have b6c0 := b6.c0
            have b6c1 := b6.c1
            have b6c2 := b6.c2
            have b6f0 := b6.f0
            have b6f1 := b6.f1
            have b6f2 := b6.f2
            have b6l := b6.lt
            have b12c0 := b12.c0
            have b12c1 := b12.c1
            have b12c2 := b12.c2
            have b12f0 := b12.f0
            have b12f1 := b12.f1
            have b12f2 := b12.f2
            have b12l := b12.lt
            go_region_with (first
              | (go_at_call 41
                 (with_reducible refine (rFixN x p kp _ HP.out (by omega)).mono ?_)
                 rintro e w3 ⟨y3, rfl, hy3, c1⟩
                 have HY3 := Lib.hid hy3
                 clear b15c0 b15c1 b15c2 b15f0 b15f1 b15f2 b15l b6c0 b6c1 b6c2 b6f0 b6f1 b6f2 b6l b12c0 b12c1 b12c2 b12f0 b12f1 b12f2 b12l
                 replace b6 := b6.keep0 c1
                 replace b12 := b12.keep0 c1
                 replace b15 := b15.keep0 c1
                 replace hch := hch.then c1
                 clear c1 hy3
                 have b15c0 := b15.c0
                 have b15c1 := b15.c1
                 have b15c2 := b15.c2
                 have b15f0 := b15.f0
                 have b15f1 := b15.f1
                 have b15f2 := b15.f2
                 have b15l := b15.lt
                 have b6c0 := b6.c0
                 have b6c1 := b6.c1
                 have b6c2 := b6.c2
                 have b6f0 := b6.f0
                 have b6f1 := b6.f1
                 have b6f2 := b6.f2
                 have b6l := b6.lt
                 have b12c0 := b12.c0
                 have b12c1 := b12.c1
                 have b12c2 := b12.c2
                 have b12f0 := b12.f0
                 have b12f1 := b12.f1
                 have b12f2 := b12.f2
                 have b12l := b12.lt
                 skip)
              | (go_at_call 55
                 (with_reducible refine (rMinus_any z y3 (p * growth (slQ l) (b : Rat) f s n) p K1 kp _ HZ.out HY3.out (by omega)).mono ?_)
                 rintro e w4 ⟨y4, rfl, hy4, c1⟩
                 have HY4 := Lib.hid hy4
                 clear b15c0 b15c1 b15c2 b15f0 b15f1 b15f2 b15l b6c0 b6c1 b6c2 b6f0 b6f1 b6f2 b6l b12c0 b12c1 b12c2 b12f0 b12f1 b12f2 b12l
                 replace b6 := b6.keep0 c1
                 replace b12 := b12.keep0 c1
                 replace b15 := b15.keep0 c1
                 replace hch := hch.then c1
                 clear c1 hy4
                 have b15c0 := b15.c0
                 have b15c1 := b15.c1
                 have b15c2 := b15.c2
                 have b15f0 := b15.f0
                 have b15f1 := b15.f1
                 have b15f2 := b15.f2
                 have b15l := b15.lt
                 have b6c0 := b6.c0
                 have b6c1 := b6.c1
                 have b6c2 := b6.c2
                 have b6f0 := b6.f0
                 have b6f1 := b6.f1
                 have b6f2 := b6.f2
                 have b6l := b6.lt
                 have b12c0 := b12.c0
                 have b12c1 := b12.c1
                 have b12c2 := b12.c2
                 have b12f0 := b12.f0
                 have b12f1 := b12.f1
                 have b12f2 := b12.f2
                 have b12l := b12.lt
                 skip)
              | fail)
            all_goals
              have HV : Hid (Val y4 v (kp + 2059062510)) := Lib.hid (by
                have h1 := HY4.out
                rw [show p * growth (slQ l) (b : Rat) f s n - p = v by rw [HVE.out]; grind] at h1
                exact h1.mono (by omega))
              go_wp2_with fail
              have S := b12.store (.bool y4.neg) (.string y4.num) (.string y4.den)
              exact bodyPost_ret (v := .tuple #[.agg #[.bool y4.neg, .string y4.num, .string y4.den], .int .i64 0]) (by simp [results, Try.results29, go_sem, S.c0, S.c1, S.c2]) rfl ⟨y4, rfl, HV.out, hch.store3 (g := w.heap.size + 1) (.inr (by omega)) _ _ _⟩
  · have hr : r = ri := by rw [← HR.out, terms_of (by rw [HRI.out]; exact hr0), HRI.out]
    subst hr
    have hv : v = 0 := by rw [← HV.out]; unfold cmpV; rw [HR.out, if_neg hr0]
    subst hv
    have d1 : (r == 0) = false := by simp; exact hr0
    clear HR HV hr0 HRI
    go_enter Try.func29, Try.ntmps29
    have b6c0 := b6.c0
    have b6c1 := b6.c1
    have b6c2 := b6.c2
    have b6f0 := b6.f0
    have b6f1 := b6.f1
    have b6f2 := b6.f2
    have b6l := b6.lt
    go_wp2_with fail
    refine (HIV.out _ hx1).mono ?_
    rintro e w1 ⟨rfl, c1⟩
    clear b6c0 b6c1 b6c2 b6f0 b6f1 b6f2 b6l
    replace b12 := b12.keep0 c1
    replace hch := hch.then c1
    have b12c0 := b12.c0
    have b12c1 := b12.c1
    have b12c2 := b12.c2
    have b12f0 := b12.f0
    have b12f1 := b12.f1
    have b12f2 := b12.f2
    have b12l := b12.lt
    go_wp2_with fail
    have S := b12.store (.bool false) (.string ⟨#[]⟩) (.string ⟨#[]⟩)
    exact bodyPost_ret (v := .tuple #[.agg #[.bool false, .string ⟨#[]⟩, .string ⟨#[]⟩], .int .i64 r]) (by simp [results, Try.results29, go_sem, S.c0, S.c1, S.c2]) rfl ⟨q0, rfl, hz0.out, hch.store3 (.inr (by omega)) _ _ _⟩
end Go.Proofs.Ytcfejphpflafiaa
