/-
  The law InterestAtLeast.
-/
import Derived.Test.YtcfejphpflafiaaIB3
namespace Go.Proofs.Ytcfejphpflafiaa
open Go.RowKit Nd

set_option maxRecDepth 20000 in
set_option maxHeartbeats 4000000 in
theorem latleast_any (am : Int) (L : List (Int × Int)) (f : Int) (ln : Int) (ev : Int) (m : Nat) (A : Option Addr) (cap : Nat) (w : World) (ham : 0 ≤ am ∧ am ≤ 65535) (hf : 0 ≤ f ∧ f ≤ 255) (hln : 0 ≤ ln ∧ ln ≤ 255) (hev : 0 ≤ ev ∧ ev ≤ 255) (hn : L.length = m) (hr : ∀ x ∈ L, (0 ≤ x.1 ∧ x.1 ≤ 65535) ∧ 0 ≤ x.2 ∧ x.2 ≤ 65535) (hx : RdP w A L) :
    Calls Try.prog 10 #[.int .u16 am, .slice A m cap, .int .u8 f, .int .u8 ln, .int .u8 ev] w fun e w' => e = .returned (.bool true) ∧ Chg [] w w' := by
  have hch : Chg [] w w := Chg.refl _ _
  have HN := Lib.hid hn
  have HR := Lib.hid hr
  have am1 := ham.1
  have am2 := ham.2
  have f1 := hf.1
  have f2 := hf.2
  have ln1 := hln.1
  have ln2 := hln.2
  have ev1 := hev.1
  have ev2 := hev.2
  clear hn hr ham hf hln hev
  obtain ⟨c, HC⟩ := name_it (ln % 80)
  have ca : ln % 80 = c := HC.out
  have cb : ln.tmod 80 = c := by rw [Int.tmod_eq_emod_of_nonneg ln1]; exact HC.out
  have c1 : 0 ≤ c := by omega
  have c2 : c ≤ 79 := by omega
  clear HC
  obtain ⟨d, HD⟩ := name_it (ev % 90)
  have da : ev % 90 = d := HD.out
  have db : ev.tmod 90 = d := by rw [Int.tmod_eq_emod_of_nonneg ev1]; exact HD.out
  have d1 : 0 ≤ d := by omega
  have d2 : d ≤ 89 := by omega
  clear HD
  go_enter Try.func10, Try.ntmps10
  go_wp2_with fail
  refine (steps_any L m A cap _ HN.out HR.out hx).mono ?_
  rintro e w1 ⟨v, xs, rfl, hown, hq, hfit, -, c1⟩
  obtain ⟨B, cb, rfl, -, -, hs⟩ := hown.sds
  have HB := Lib.hid (Bst.of HR.out hq hfit)
  obtain ⟨Ls, HLS⟩ := name_it (bldQ r12 0 (L.take 5))
  rw [HLS.out] at HB
  clear hown hq hfit hx HLS
  replace hch := hch.then c1
  clear c1
  have HZ0n := Lib.hid (amtQ_nn (x := am) am1)
  go_wp2_with fail
  refine (amount_any am _ am1 am2).mono ?_
  rintro e w2 ⟨z0, rfl, h0, c1⟩
  have HZ0 := Lib.hid h0
  clear h0
  replace hs := hs.keep0 c1
  replace hch := hch.then c1
  have b0 := Blk3.alloc w2 (.bool z0.neg) (.string z0.num) (.string z0.den) 29
  have c2 : Chg [] w2 (w2.alloc (.cells #[.bool z0.neg, .string z0.num, .string z0.den] 29)) := (Chg.refl _ _).alloc _
  replace hs := hs.keep0 c2
  replace hch := hch.then c2
  clear c1 c2
  obtain ⟨pam, HPam⟩ := name_it (amtQ am)
  rw [HPam.out] at HZ0 HZ0n
  have b0c0 := b0.c0
  have b0c1 := b0.c1
  have b0c2 := b0.c2
  have b0f0 := b0.f0
  have b0f1 := b0.f1
  have b0f2 := b0.f2
  have b0l := b0.lt
  go_wp2_with fail
  refine (simple_b HB.out z0 pam 1 f (f + c) 360 B cb _ HZ0.out.num (by omega) HZ0n.out (by omega) (by omega) (by omega) (.inl rfl) hs).mono ?_
  rintro e w3 ⟨z1, rfl, h1, c1⟩
  clear b0c0 b0c1 b0c2 b0f0 b0f1 b0f2 b0l
  have H1 := Lib.hid h1
  clear h1
  replace b0 := b0.keep0 c1
  replace hs := hs.keep0 c1
  replace hch := hch.then c1
  have b1 := Blk3.alloc w3 (.bool z1.neg) (.string z1.num) (.string z1.den) 29
  have c2 : Chg [] w3 (w3.alloc (.cells #[.bool z1.neg, .string z1.num, .string z1.den] 29)) := (Chg.refl _ _).alloc _
  replace b0 := b0.keep0 c2
  replace hs := hs.keep0 c2
  replace hch := hch.then c2
  clear c1 c2
  have b0c0 := b0.c0
  have b0c1 := b0.c1
  have b0c2 := b0.c2
  have b0f0 := b0.f0
  have b0f1 := b0.f1
  have b0f2 := b0.f2
  have b0l := b0.lt
  go_wp2_with fail
  refine (compound_b HB.out z0 pam 1 f (f + c) 360 (2 + d) B cb _ HZ0.out.num (by omega) HZ0n.out (by omega) (by omega) (by omega) (.inl rfl) (by omega) (by omega) (by omega) hs).mono ?_
  rintro e w4 ⟨z2, rfl, h2, c1⟩
  clear b0c0 b0c1 b0c2 b0f0 b0f1 b0f2 b0l
  have H2 := Lib.hid h2
  clear h2
  replace b0 := b0.keep0 c1
  replace b1 := b1.keep0 c1
  replace hs := hs.keep0 c1
  replace hch := hch.then c1
  have b2 := Blk3.alloc w4 (.bool z2.neg) (.string z2.num) (.string z2.den) 29
  have c2 : Chg [] w4 (w4.alloc (.cells #[.bool z2.neg, .string z2.num, .string z2.den] 29)) := (Chg.refl _ _).alloc _
  replace b0 := b0.keep0 c2
  replace b1 := b1.keep0 c2
  replace hs := hs.keep0 c2
  replace hch := hch.then c2
  clear c1 c2
  clear b0 hs
  have hge : pam * (accT Ls f (f + c) / ((360 : Int) : Rat)) ≤ pam * (growth Ls ((360 : Int) : Rat) f (f + c) (2 + d) - 1) := by
    have h1 := growth_ge (l := Ls) (b := ((360 : Int) : Rat)) (f := f) (t := f + c) (n := 2 + d) HB.out.good.nn (by decide) (by omega) (by omega)
    exact Rat.mul_le_mul_of_nonneg_left (by grind) HZ0n.out
  have heq : c ≤ 2 + d → pam * (accT Ls f (f + c) / ((360 : Int) : Rat)) = pam * (growth Ls ((360 : Int) : Rat) f (f + c) (2 + d) - 1) := fun h => by
    rw [growth_one (by omega) (by omega) (by omega)]; grind
  obtain ⟨va, HVA⟩ := name_it (pam * (accT Ls f (f + c) / ((360 : Int) : Rat)))
  obtain ⟨vb, HVB⟩ := name_it (pam * (growth Ls ((360 : Int) : Rat) f (f + c) (2 + d) - 1))
  rw [HVA.out] at hge heq H1
  rw [HVB.out] at hge heq H2
  have hq1 : 0 ≤ qo vb va := by
    unfold qo sg
    rw [if_neg (Rat.not_lt.2 (by grind))]
    split <;> omega
  have hq2 : c ≤ 2 + d → qo vb va = 0 := fun h => by
    rw [heq h]; unfold qo sg
    rw [show vb - vb = 0 by grind]; decide
  clear hge heq HVA HVB
  have b1c0 := b1.c0
  have b1c1 := b1.c1
  have b1c2 := b1.c2
  have b1f0 := b1.f0
  have b1f1 := b1.f1
  have b1f2 := b1.f2
  have b1l := b1.lt
  have b2c0 := b2.c0
  have b2c1 := b2.c1
  have b2c2 := b2.c2
  have b2f0 := b2.f0
  have b2f1 := b2.f1
  have b2f2 := b2.f2
  have b2l := b2.lt
  go_wp2_with fail
  refine (CompareN z2 z1 vb va (1 + 50000) (1 + 50000) _ H2.out.num H1.out.num (by omega)).mono ?_
  rintro e w5 ⟨rfl, c1⟩
  clear b1c0 b1c1 b1c2 b1f0 b1f1 b1f2 b1l b2c0 b2c1 b2c2 b2f0 b2f1 b2f2 b2l
  replace b1 := b1.keep0 c1
  replace b2 := b2.keep0 c1
  replace hch := hch.then c1
  clear c1
  clear b1 b2
  obtain ⟨k, HK⟩ := name_it (qo vb va)
  rw [HK.out] at hq1 hq2
  rw [HK.out]
  go_wp2_with fail
  refine (awake_any _).mono ?_
  rintro e w6 ⟨rfl, c1⟩
  replace hch := hch.then c1
  clear c1
  by_cases hle : c ≤ 2 + d
  · have hk := hq2 hle
    subst hk
    have d1 : decide (2 + d < c) = false := decide_eq_false (by omega)
    clear hq2
    go_wp2_with fail
    go_ret
    exact ⟨by simp, hch⟩
  · have d1 : decide (2 + d < c) = true := decide_eq_true (by omega)
    clear hq2
    go_wp2_with fail
    go_ret
    exact ⟨by simp, hch⟩
end Go.Proofs.Ytcfejphpflafiaa
