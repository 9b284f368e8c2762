/-
  The law InterestPeriods.
-/
import Derived.Test.YtcfejphpflafiaaIB3
namespace Go.Proofs.Ytcfejphpflafiaa
open Go.RowKit Nd

set_option maxRecDepth 20000 in
set_option maxHeartbeats 4000000 in
theorem lperiods_any (am : Int) (L : List (Int × Int)) (f : Int) (ln : Int) (ev : Int) (m : Nat) (A : Option Addr) (cap : Nat) (w : World) (ham : 0 ≤ am ∧ am ≤ 65535) (hf : 0 ≤ f ∧ f ≤ 255) (hln : 0 ≤ ln ∧ ln ≤ 255) (hev : 0 ≤ ev ∧ ev ≤ 255) (hn : L.length = m) (hr : ∀ x ∈ L, (0 ≤ x.1 ∧ x.1 ≤ 65535) ∧ 0 ≤ x.2 ∧ x.2 ≤ 65535) (hx : RdP w A L) :
    Calls Try.prog 8 #[.int .u16 am, .slice A m cap, .int .u8 f, .int .u8 ln, .int .u8 ev] w fun e w' => e = .returned (.bool true) ∧ Chg [] w w' := by
  have hch : Chg [] w w := Chg.refl _ _
  have HN := Lib.hid hn
  have HR := Lib.hid hr
  have am1 := ham.1
  have am2 := ham.2
  have f1 := hf.1
  have f2 := hf.2
  have ln1 := hln.1
  have ln2 := hln.2
  have ev1 := hev.1
  have ev2 := hev.2
  clear hn hr ham hf hln hev
  obtain ⟨c, HC⟩ := name_it (ev % 40)
  have ca : ev % 40 = c := HC.out
  have cb : ev.tmod 40 = c := by rw [Int.tmod_eq_emod_of_nonneg ev1]; exact HC.out
  have c1 : 0 ≤ c := by omega
  have c2 : c ≤ 39 := by omega
  clear HC
  by_cases h64 : 64 * (1 + c) < ln
  · have d1 : decide ((1 + c) * 64 < ln) = true := decide_eq_true (by omega)
    go_enter Try.func8, Try.ntmps8
    go_wp2_with fail
    refine (steps_any L m A cap _ HN.out HR.out hx).mono ?_
    rintro e w1 ⟨v, xs, rfl, hown, hq, hfit, -, c1⟩
    obtain ⟨B, cb, rfl, -, -, hs⟩ := hown.sds
    have HB := Lib.hid (Bst.of HR.out hq hfit)
    obtain ⟨Ls, HLS⟩ := name_it (bldQ r12 0 (L.take 5))
    rw [HLS.out] at HB
    clear hown hq hfit hx HLS
    replace hch := hch.then c1
    clear c1
    have HZ0n := Lib.hid (amtQ_nn (x := am) am1)
    go_wp2_with fail
    refine (amount_any am _ am1 am2).mono ?_
    rintro e w2 ⟨z0, rfl, h0, c1⟩
    have HZ0 := Lib.hid h0
    clear h0
    replace hs := hs.keep0 c1
    replace hch := hch.then c1
    have b0 := Blk3.alloc w2 (.bool z0.neg) (.string z0.num) (.string z0.den) 29
    have c2 : Chg [] w2 (w2.alloc (.cells #[.bool z0.neg, .string z0.num, .string z0.den] 29)) := (Chg.refl _ _).alloc _
    replace hs := hs.keep0 c2
    replace hch := hch.then c2
    clear c1 c2
    obtain ⟨pam, HPam⟩ := name_it (amtQ am)
    rw [HPam.out] at HZ0 HZ0n
    have b0c0 := b0.c0
    have b0c1 := b0.c1
    have b0c2 := b0.c2
    have b0f0 := b0.f0
    have b0f1 := b0.f1
    have b0f2 := b0.f2
    have b0l := b0.lt
    go_wp2_with fail
    refine (compound_l HB.out z0 pam 1 f (f + ln) 365 (1 + c) B cb _ HZ0.out.num (by omega) HZ0n.out (by omega) (by omega) (by omega) (.inr rfl) (by omega) (by omega) (by omega) hs).mono ?_
    rintro e w3 ⟨z1, rfl, h1, c1⟩
    clear b0c0 b0c1 b0c2 b0f0 b0f1 b0f2 b0l
    obtain rfl : z1 = q0 := h1.unique Val_zero
    simp only [show q0.neg = false from rfl, show q0.num = ⟨#[]⟩ from rfl, show q0.den = ⟨#[]⟩ from rfl]
    clear h1
    replace b0 := b0.keep0 c1
    replace hs := hs.keep0 c1
    replace hch := hch.then c1
    have b1 := Blk3.alloc w3 (.bool false) (.string ⟨#[]⟩) (.string ⟨#[]⟩) 29
    have c2 : Chg [] w3 (w3.alloc (.cells #[.bool false, .string ⟨#[]⟩, .string ⟨#[]⟩] 29)) := (Chg.refl _ _).alloc _
    replace b0 := b0.keep0 c2
    replace hs := hs.keep0 c2
    replace hch := hch.then c2
    clear c1 c2
    clear b0 hs
    go_wp2_with fail
    refine (awake_any _).mono ?_
    rintro e w4 ⟨rfl, c1⟩
    replace b1 := b1.keep0 c1
    replace hch := hch.then c1
    clear c1
    have b1c0 := b1.c0
    have b1c1 := b1.c1
    have b1c2 := b1.c2
    have b1f0 := b1.f0
    have b1f1 := b1.f1
    have b1f2 := b1.f2
    have b1l := b1.lt
    go_wp2_with fail
    go_ret
    exact ⟨rfl, hch⟩
  · have d1 : decide ((1 + c) * 64 < ln) = false := decide_eq_false (by omega)
    go_enter Try.func8, Try.ntmps8
    go_wp2_with fail
    refine (steps_any L m A cap _ HN.out HR.out hx).mono ?_
    rintro e w1 ⟨v, xs, rfl, hown, hq, hfit, -, c1⟩
    obtain ⟨B, cb, rfl, -, -, hs⟩ := hown.sds
    have HB := Lib.hid (Bst.of HR.out hq hfit)
    obtain ⟨Ls, HLS⟩ := name_it (bldQ r12 0 (L.take 5))
    rw [HLS.out] at HB
    clear hown hq hfit hx HLS
    replace hch := hch.then c1
    clear c1
    have HZ0n := Lib.hid (amtQ_nn (x := am) am1)
    go_wp2_with fail
    refine (amount_any am _ am1 am2).mono ?_
    rintro e w2 ⟨z0, rfl, h0, c1⟩
    have HZ0 := Lib.hid h0
    clear h0
    replace hs := hs.keep0 c1
    replace hch := hch.then c1
    have b0 := Blk3.alloc w2 (.bool z0.neg) (.string z0.num) (.string z0.den) 29
    have c2 : Chg [] w2 (w2.alloc (.cells #[.bool z0.neg, .string z0.num, .string z0.den] 29)) := (Chg.refl _ _).alloc _
    replace hs := hs.keep0 c2
    replace hch := hch.then c2
    clear c1 c2
    obtain ⟨pam, HPam⟩ := name_it (amtQ am)
    rw [HPam.out] at HZ0 HZ0n
    have b0c0 := b0.c0
    have b0c1 := b0.c1
    have b0c2 := b0.c2
    have b0f0 := b0.f0
    have b0f1 := b0.f1
    have b0f2 := b0.f2
    have b0l := b0.lt
    go_wp2_with fail
    refine (compound_b HB.out z0 pam 1 f (f + ln) 365 (1 + c) B cb _ HZ0.out.num (by omega) HZ0n.out (by omega) (by omega) (by omega) (.inr rfl) (by omega) (by omega) (by omega) hs).mono ?_
    rintro e w3 ⟨z1, rfl, h1, c1⟩
    clear b0c0 b0c1 b0c2 b0f0 b0f1 b0f2 b0l
    have H1 := Lib.hid h1
    clear h1
    replace b0 := b0.keep0 c1
    replace hs := hs.keep0 c1
    replace hch := hch.then c1
    have b1 := Blk3.alloc w3 (.bool z1.neg) (.string z1.num) (.string z1.den) 29
    have c2 : Chg [] w3 (w3.alloc (.cells #[.bool z1.neg, .string z1.num, .string z1.den] 29)) := (Chg.refl _ _).alloc _
    replace b0 := b0.keep0 c2
    replace hs := hs.keep0 c2
    replace hch := hch.then c2
    clear c1 c2
    have b0c0 := b0.c0
    have b0c1 := b0.c1
    have b0c2 := b0.c2
    have b0f0 := b0.f0
    have b0f1 := b0.f1
    have b0f2 := b0.f2
    have b0l := b0.lt
    go_wp2_with fail
    refine (rcompound_b HB.out z0 pam 1 f (f + ln) 365 (1 + c) B cb _ HZ0.out.num (by omega) HZ0n.out (by omega) (by omega) (by omega) (.inr rfl) (by omega) (by omega) (by omega) hs).mono ?_
    rintro e w4 ⟨z2, rfl, h2, c1⟩
    clear b0c0 b0c1 b0c2 b0f0 b0f1 b0f2 b0l
    obtain rfl : z2 = z1 := h2.unique H1.out
    clear h2
    replace b0 := b0.keep0 c1
    replace b1 := b1.keep0 c1
    replace hs := hs.keep0 c1
    replace hch := hch.then c1
    have b2 := Blk3.alloc w4 (.bool z2.neg) (.string z2.num) (.string z2.den) 29
    have c2 : Chg [] w4 (w4.alloc (.cells #[.bool z2.neg, .string z2.num, .string z2.den] 29)) := (Chg.refl _ _).alloc _
    replace b0 := b0.keep0 c2
    replace b1 := b1.keep0 c2
    replace hs := hs.keep0 c2
    replace hch := hch.then c2
    clear c1 c2
    clear b0 hs
    go_wp2_with fail
    refine (awake_any _).mono ?_
    rintro e w5 ⟨rfl, c1⟩
    replace b1 := b1.keep0 c1
    replace b2 := b2.keep0 c1
    replace hch := hch.then c1
    clear c1
    have b1c0 := b1.c0
    have b1c1 := b1.c1
    have b1c2 := b1.c2
    have b1f0 := b1.f0
    have b1f1 := b1.f1
    have b1f2 := b1.f2
    have b1l := b1.lt
    have b2c0 := b2.c0
    have b2c1 := b2.c1
    have b2c2 := b2.c2
    have b2f0 := b2.f0
    have b2f1 := b2.f1
    have b2f2 := b2.f2
    have b2l := b2.lt
    go_wp2_with fail
    go_ret
    exact ⟨by simp, hch⟩
end Go.Proofs.Ytcfejphpflafiaa
