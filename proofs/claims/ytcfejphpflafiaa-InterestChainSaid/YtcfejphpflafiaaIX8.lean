/-
  Interest: the reference's Simple.
-/
import Derived.Test.YtcfejphpflafiaaIX7
namespace Go.Proofs.Ytcfejphpflafiaa
open Go.RowKit Nd

theorem rat_ne {b : Int} (h : 1 ≤ b) : (b : Rat) ≠ 0 := by
  intro h0
  have : b = 0 := by exact_mod_cast h0
  omega

set_option maxRecDepth 20000 in
set_option maxHeartbeats 4000000 in
theorem rsimple_any (x : Q3) (p : Rat) (kp : Nat) (l : List St) (f t b : Int) (m k : Nat) (A : Option Addr) (cap : Nat) (w : World) (hp : Num x p kp) (hkp : kp ≤ 1000000000) (hn : l.length = m) (hm : m ≤ 1000000000) (hf : Fits l k) (hx : Sds w A l) :
    Calls Try.prog 20 #[.agg #[.bool x.neg, .string x.num, .string x.den], .slice A m cap, .int .i64 f, .int .i64 t, .int .i64 b] w fun e w' => ∃ z, e = .returned (.tuple #[.agg #[.bool z.neg, .string z.num, .string z.den], .int .i64 (simE p (slQ l) f t b)]) ∧ Val z (simV p (slQ l) f t b) (kp + 1059061770) ∧ Chg [] w w' := by
  have hch : Chg [] w ((w.alloc (.cells #[.bool x.neg, .string x.num, .string x.den] 29)).alloc (.cells #[.bool false, .string ⟨#[]⟩, .string ⟨#[]⟩] 29)) := ((Chg.refl _ _).alloc _).alloc _
  have b5 := (Blk3.alloc w (.bool x.neg) (.string x.num) (.string x.den) 29).keep ((Chg.refl [] _).alloc (.cells #[.bool false, .string ⟨#[]⟩, .string ⟨#[]⟩] 29)) (by simp)
  have b10 := Blk3.alloc (w.alloc (.cells #[.bool x.neg, .string x.num, .string x.den] 29)) (.bool false) (.string ⟨#[]⟩) (.string ⟨#[]⟩) 29
  rw [World.size_alloc] at b10
  have hx1 := hx.keep0 hch
  have HIV := Lib.hid (fun w h => intv_any x p kp l f t b 1 m k A cap w hp (by omega) hn hm hf (by omega) h)
  obtain ⟨r, HR⟩ := name_it (simE p (slQ l) f t b)
  obtain ⟨v, HV⟩ := name_it (simV p (slQ l) f t b)
  have hr : intvE p (slQ l) f t b 1 = r := HR.out
  rw [hr] at HIV
  rw [HR.out, HV.out]
  have HN := Lib.hid hn
  have HF := Lib.hid hf
  have HP := Lib.hid hp
  clear hn hf hx hp
  by_cases hr0 : r = 0
  · subst hr0
    obtain ⟨hc, hdf, hdt, hb, -, hft, -⟩ := intv_ok hr
    obtain ⟨f1, f2⟩ := isd_yes hdf
    obtain ⟨t1, t2⟩ := isd_yes hdt
    have hb1 : 1 ≤ b := by omega
    have hb2 : b ≤ 1000 := by omega
    have hv : Hid (v = p * accT (slQ l) f t / (b : Rat)) := Lib.hid (by rw [← HV.out]; unfold simV; rw [if_pos HR.out]; grind)
    have HAC := Lib.hid (fun w h => accrued_any l f t m k A cap w HN.out hm HF.out f1 hft t2 h)
    have hka := Lib.hid (KA_le (k := k) (d := t - f) (by omega) HF.out.le)
    obtain ⟨a, HA⟩ := name_it (accT (slQ l) f t)
    rw [HA.out] at HAC hv
    obtain ⟨K, HK⟩ := name_it (KA k (t - f))
    rw [HK.out] at HAC hka
    have HB0 := Lib.hid (rat_ne hb1)
    clear hr HR HV hc hdf hdt hb hft
    go_enter Try.func20, Try.ntmps20
    have b5c0 := b5.c0
    have b5c1 := b5.c1
    have b5c2 := b5.c2
    have b5f0 := b5.f0
    have b5f1 := b5.f1
    have b5f2 := b5.f2
    have b5l := b5.lt
    go_wp2_with fail
    refine (HIV.out _ hx1).mono ?_
    rintro e w1 ⟨rfl, c1⟩
    clear b5c0 b5c1 b5c2 b5f0 b5f1 b5f2 b5l
    replace b5 := b5.keep0 c1
    replace b10 := b10.keep0 c1
    replace hch := hch.then c1
    have hx2 := hx1.keep0 c1
    clear c1 hx1
    have b5c0 := b5.c0
    have b5c1 := b5.c1
    have b5c2 := b5.c2
    have b5f0 := b5.f0
    have b5f1 := b5.f1
    have b5f2 := b5.f2
    have b5l := b5.lt
    go_wp2_with fail
    refine (rFixN x p kp _ HP.out (by omega)).mono ?_
    rintro e w2 ⟨y, rfl, hy, c1⟩
    have HY := Lib.hid hy
    clear b5c0 b5c1 b5c2 b5f0 b5f1 b5f2 b5l
    replace b10 := b10.keep0 c1
    replace hch := hch.then c1
    have hx3 := hx2.keep0 c1
    clear c1 hx2 hy
    go_wp2_with fail
    refine (HAC.out _ hx3).mono ?_
    rintro e w3 ⟨y2, rfl, hy, c1⟩
    have HY2 := Lib.hid hy
    replace b10 := b10.keep0 c1
    replace hch := hch.then c1
    clear c1 hx3 hy
    go_wp2_with fail
    refine (rTimes_any y y2 p a kp K _ HY.out HY2.out (by have := hka.out; omega)).mono ?_
    rintro e w4 ⟨y3, rfl, hy, c1⟩
    have HY3 := Lib.hid hy
    replace b10 := b10.keep0 c1
    replace hch := hch.then c1
    clear c1 hy
    go_wp2_with fail
    refine (rIntV b _ (by omega) (by omega)).mono ?_
    rintro e w5 ⟨y4, rfl, hy, c1⟩
    have HY4 := Lib.hid hy
    replace b10 := b10.keep0 c1
    replace hch := hch.then c1
    clear c1 hy
    go_wp2_with fail
    refine (rOver_any y3 y4 (p * a) (b : Rat) (kp + K) 8 _ HY3.out HY4.out HB0.out (by have := hka.out; omega)).mono ?_
    rintro e w6 ⟨z, rfl, hz, c1⟩
    rw [← hv.out] at hz
    have HZ := Lib.hid (hz.mono (show kp + K + 8 ≤ kp + 1059061770 by have := hka.out; omega))
    replace b10 := b10.keep0 c1
    replace hch := hch.then c1
    clear c1 hz
    have b10c0 := b10.c0
    have b10c1 := b10.c1
    have b10c2 := b10.c2
    have b10f0 := b10.f0
    have b10f1 := b10.f1
    have b10f2 := b10.f2
    have b10l := b10.lt
    go_wp2_with fail
    have S := b10.store (.bool z.neg) (.string z.num) (.string z.den)
    exact bodyPost_ret (v := .tuple #[.agg #[.bool z.neg, .string z.num, .string z.den], .int .i64 0]) (by simp [results, Try.results20, go_sem, S.c0, S.c1, S.c2]) rfl ⟨z, rfl, HZ.out, hch.store3 (.inr (by omega)) _ _ _⟩
  · have hv : v = 0 := by rw [← HV.out]; unfold simV; rw [HR.out, if_neg hr0]
    subst hv
    have d1 : (r == 0) = false := by simp; exact hr0
    have hz : Hid (Val q0 0 (kp + 1059061770)) := Lib.hid (Val_zeroK (by omega))
    clear HR HV hr0 hr
    go_enter Try.func20, Try.ntmps20
    have b5c0 := b5.c0
    have b5c1 := b5.c1
    have b5c2 := b5.c2
    have b5f0 := b5.f0
    have b5f1 := b5.f1
    have b5f2 := b5.f2
    have b5l := b5.lt
    go_wp2_with fail
    refine (HIV.out _ hx1).mono ?_
    rintro e w1 ⟨rfl, c1⟩
    clear b5c0 b5c1 b5c2 b5f0 b5f1 b5f2 b5l
    replace b10 := b10.keep0 c1
    replace hch := hch.then c1
    have b10c0 := b10.c0
    have b10c1 := b10.c1
    have b10c2 := b10.c2
    have b10f0 := b10.f0
    have b10f1 := b10.f1
    have b10f2 := b10.f2
    have b10l := b10.lt
    go_wp2_with fail
    have S := b10.store (.bool false) (.string ⟨#[]⟩) (.string ⟨#[]⟩)
    exact bodyPost_ret (v := .tuple #[.agg #[.bool false, .string ⟨#[]⟩, .string ⟨#[]⟩], .int .i64 r]) (by simp [results, Try.results20, go_sem, S.c0, S.c1, S.c2]) rfl ⟨q0, rfl, hz.out, hch.store3 (.inr (by omega)) _ _ _⟩
end Go.Proofs.Ytcfejphpflafiaa
