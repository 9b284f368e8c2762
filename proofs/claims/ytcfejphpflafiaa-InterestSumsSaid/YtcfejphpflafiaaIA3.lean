/-
  The law InterestSums.
-/
import Derived.Test.YtcfejphpflafiaaIB3
namespace Go.Proofs.Ytcfejphpflafiaa
open Go.RowKit Nd

set_option maxRecDepth 20000 in
set_option maxHeartbeats 4000000 in
theorem lsums_any (am : Int) (L : List (Int × Int)) (f : Int) (ln : Int) (m : Nat) (A : Option Addr) (cap : Nat) (w : World) (ham : 0 ≤ am ∧ am ≤ 65535) (hf : 0 ≤ f ∧ f ≤ 255) (hln : 0 ≤ ln ∧ ln ≤ 255) (hn : L.length = m) (hr : ∀ x ∈ L, (0 ≤ x.1 ∧ x.1 ≤ 65535) ∧ 0 ≤ x.2 ∧ x.2 ≤ 65535) (hx : RdP w A L) :
    Calls Try.prog 6 #[.int .u16 am, .slice A m cap, .int .u8 f, .int .u8 ln] w fun e w' => e = .returned (.bool true) ∧ Chg [] w w' := by
  have hch : Chg [] w w := Chg.refl _ _
  have HN := Lib.hid hn
  have HR := Lib.hid hr
  have am1 := ham.1
  have am2 := ham.2
  have f1 := hf.1
  have f2 := hf.2
  have ln1 := hln.1
  have ln2 := hln.2
  clear hn hr ham hf hln
  obtain ⟨c, HC⟩ := name_it (ln % 60)
  have ca : ln % 60 = c := HC.out
  have cb : ln.tmod 60 = c := by rw [Int.tmod_eq_emod_of_nonneg ln1]; exact HC.out
  have c1 : 0 ≤ c := by omega
  have c2 : c ≤ 59 := by omega
  clear HC
  go_enter Try.func6, Try.ntmps6
  go_wp2_with fail
  refine (steps_any L m A cap _ HN.out HR.out hx).mono ?_
  rintro e w1 ⟨v, xs, rfl, hown, hq, hfit, -, c1⟩
  obtain ⟨B, cb, rfl, -, -, hs⟩ := hown.sds
  have HB := Lib.hid (Bst.of HR.out hq hfit)
  obtain ⟨Ls, HLS⟩ := name_it (bldQ r12 0 (L.take 5))
  rw [HLS.out] at HB
  clear hown hq hfit hx HLS
  have HLOW1 : Hid (0 < xs.length → ∃ g o, B = some ⟨g, o, none⟩ ∧ g < w1.heap.size) := Lib.hid hs.form
  have HCS : Hid (w.heap.size ≤ w1.heap.size) := Lib.hid c1.size
  replace hch := hch.then c1
  clear c1
  have HZ0n := Lib.hid (amtQ_nn (x := am) am1)
  go_wp2_with fail
  refine (amount_any am _ am1 am2).mono ?_
  rintro e w2 ⟨z0, rfl, h0, c1⟩
  have hw12 : w1.heap.size ≤ w2.heap.size := c1.size
  have HZ0 := Lib.hid h0
  clear h0
  replace hs := hs.keep0 c1
  replace hch := hch.then c1
  have b0 := Blk3.alloc w2 (.bool z0.neg) (.string z0.num) (.string z0.den) 29
  have c2 : Chg [] w2 (w2.alloc (.cells #[.bool z0.neg, .string z0.num, .string z0.den] 29)) := (Chg.refl _ _).alloc _
  replace hs := hs.keep0 c2
  replace hch := hch.then c2
  clear c1 c2
  obtain ⟨pam, HPam⟩ := name_it (amtQ am)
  rw [HPam.out] at HZ0 HZ0n
  go_wp2_with fail
  refine (Int_any 0 _ (by omega) (by omega)).mono ?_
  rintro e w3 ⟨y0, rfl, h0, c1⟩
  have hw23 : w2.heap.size < w3.heap.size := Nat.lt_of_lt_of_le b0.lt c1.size
  have HY0 : Hid (Val y0 0 1) := Lib.hid ⟨h0, Val_zero.bd⟩
  clear h0
  replace b0 := b0.keep0 c1
  replace hs := hs.keep0 c1
  replace hch := hch.then c1
  have b1 := Blk3.alloc w3 (.bool y0.neg) (.string y0.num) (.string y0.den) 29
  have c2 : Chg [] w3 (w3.alloc (.cells #[.bool y0.neg, .string y0.num, .string y0.den] 29)) := (Chg.refl _ _).alloc _
  replace b0 := b0.keep0 c2
  replace hs := hs.keep0 c2
  replace hch := hch.then c2
  clear c1 c2
  obtain ⟨g0, G0⟩ := name_it w2.heap.size
  obtain ⟨g1, G1⟩ := name_it w3.heap.size
  rw [G0.out] at b0
  rw [G1.out] at b1
  have hlow : 0 < xs.length → ∃ g o, B = some ⟨g, o, none⟩ ∧ g < g1 := fun h => by
    obtain ⟨g, o, h1, h2⟩ := HLOW1.out h
    exact ⟨g, o, h1, by rw [← G1.out]; omega⟩
  have HLOW := Lib.hid hlow
  have hg01 : g0 < g1 := by have := G0.out; have := G1.out; omega
  have hg1w : w.heap.size ≤ g1 := by rw [← G1.out]; have := HCS.out; omega
  clear hlow
  go_wp2_with fail
  rw [G0.out, G1.out]
  go_loopw [12] (fun dv wr => ∃ (d : Int) (z : Q3), dv = .int .i64 d ∧ f ≤ d ∧ d ≤ f + c ∧ Val z (accT Ls f d) (2 * (d - f).toNat + 1) ∧ Blk3 wr g0 (.bool z0.neg) (.string z0.num) (.string z0.den) ∧ Blk3 wr g1 (.bool z.neg) (.string z.num) (.string z.den) ∧ Sds wr B xs ∧ Chg [] w wr) (fun dv _ => (f + c - intOf dv).toNat)
  case atStart => exact ⟨f, y0, rfl, Int.le_refl _, by omega, by rw [accT_self]; exact HY0.out.mono (by omega), b0, b1, hs, hch⟩
  case round =>
    clear hs hch b0 b1
    obtain ⟨d, z, rfl, hd1, hd2, hz, b0, b1, hs, hch⟩ := hrel
    have HZ := Lib.hid hz
    clear hz
    by_cases hlt : d < f + c
    · have hd3 : 0 ≤ d := by omega
      have hd4 : d ≤ 1000 := by omega
      go_wp2_with fail
      refine (rate_b HB.out d B cb _ (by omega) (by omega) hs).mono ?_
      rintro e w11 ⟨z5, rfl, h5, c1⟩
      have HZ5 := Lib.hid h5
      clear h5
      replace b0 := b0.keep0 c1
      replace b1 := b1.keep0 c1
      replace hs := hs.keep0 c1
      replace hch := hch.then c1
      have b5 := Blk3.alloc w11 (.bool z5.neg) (.string z5.num) (.string z5.den) 29
      have c2 : Chg [] w11 (w11.alloc (.cells #[.bool z5.neg, .string z5.num, .string z5.den] 29)) := (Chg.refl _ _).alloc _
      replace b0 := b0.keep0 c2
      replace b1 := b1.keep0 c2
      replace hs := hs.keep0 c2
      replace hch := hch.then c2
      clear c1 c2
      have b1c0 := b1.c0
      have b1c1 := b1.c1
      have b1c2 := b1.c2
      have b1f0 := b1.f0
      have b1f1 := b1.f1
      have b1f2 := b1.f2
      have b1l := b1.lt
      have b5c0 := b5.c0
      have b5c1 := b5.c1
      have b5c2 := b5.c2
      have b5f0 := b5.f0
      have b5f1 := b5.f1
      have b5f2 := b5.f2
      have b5l := b5.lt
      go_wp2_with fail
      refine (AddN z z5 (accT Ls f d) (rq d 0 Ls) (2 * (d - f).toNat + 1) 1 _ HZ.out.num HZ5.out.num (by omega)).mono ?_
      rintro e w12 ⟨z6, rfl, h6, c1⟩
      clear b1c0 b1c1 b1c2 b1f0 b1f1 b1f2 b1l b5c0 b5c1 b5c2 b5f0 b5f1 b5f2 b5l
      rw [← accT_one Ls d, accT_add Ls hd1 (by omega)] at h6
      have HZ6 := Lib.hid h6
      clear h6
      replace b0 := b0.keep0 c1
      replace b1 := b1.keep0 c1
      replace b5 := b5.keep0 c1
      replace hs := hs.keep0 c1
      replace hch := hch.then c1
      clear c1
      have S := b1.store (.bool z6.neg) (.string z6.num) (.string z6.den)
      have b0s := b0.st2 (show g0 ≠ g1 by omega) (.bool z6.neg) (.string z6.num) (.string z6.den)
      have hss := hs.keepL HLOW.out ((Chg.refl [g1] w12).store3 (g := g1) (.inl (by simp)) (.bool z6.neg) (.string z6.num) (.string z6.den)) (fun x hx => by simp at hx; omega)
      have hchs := hch.store3 (g := g1) (.inr hg1w) (.bool z6.neg) (.string z6.num) (.string z6.den)
      have b1c0 := b1.c0
      have b1c1 := b1.c1
      have b1c2 := b1.c2
      have b1f0 := b1.f0
      have b1f1 := b1.f1
      have b1f2 := b1.f2
      have b1l := b1.lt
      clear b0 hs hch b5
      go_wp2_with fail
      go_roundw
      case rel => exact ⟨d + 1, z6, rfl, by omega, by omega, HZ6.out.mono (by omega), b0s, S, hss, hchs⟩
      case measure => simp [intOf]; omega
    · obtain rfl : d = f + c := by omega
      obtain ⟨K, HK⟩ := name_it (2 * (f + c - f).toNat + 1)
      have hk : K ≤ 200 := by have := HK.out; omega
      rw [HK.out] at HZ
      have b0c0 := b0.c0
      have b0c1 := b0.c1
      have b0c2 := b0.c2
      have b0f0 := b0.f0
      have b0f1 := b0.f1
      have b0f2 := b0.f2
      have b0l := b0.lt
      have b1c0 := b1.c0
      have b1c1 := b1.c1
      have b1c2 := b1.c2
      have b1f0 := b1.f0
      have b1f1 := b1.f1
      have b1f2 := b1.f2
      have b1l := b1.lt
      go_wp2_with fail
      refine (MultiplyN z0 z pam (accT Ls f (f + c)) 1 K _ HZ0.out.num HZ.out.num (by omega)).mono ?_
      rintro e w21 ⟨z7, rfl, h7, c1⟩
      clear b0c0 b0c1 b0c2 b0f0 b0f1 b0f2 b0l b1c0 b1c1 b1c2 b1f0 b1f1 b1f2 b1l
      have HZ7 := Lib.hid h7
      clear h7
      replace b0 := b0.keep0 c1
      replace b1 := b1.keep0 c1
      replace hs := hs.keep0 c1
      replace hch := hch.then c1
      clear c1
      go_wp2_with fail
      refine (Int_any 360 _ (by omega) (by omega)).mono ?_
      rintro e w22 ⟨y3, rfl, h3, c1⟩
      have HY3 : Hid (Val y3 ((360 : Int) : Rat) 8) := Lib.hid ⟨h3, bd_int8 (by omega) (by omega)⟩
      clear h3
      replace b0 := b0.keep0 c1
      replace b1 := b1.keep0 c1
      replace hs := hs.keep0 c1
      replace hch := hch.then c1
      clear c1
      go_wp2_with fail
      refine (DivideN z7 y3 (pam * accT Ls f (f + c)) ((360 : Int) : Rat) (1 + K) 8 _ HZ7.out.num HY3.out.num (rat_ne (by omega)) (by omega)).mono ?_
      rintro e w23 ⟨z8, rfl, h8, c1⟩
      have HZ8 := Lib.hid h8
      clear h8
      replace b0 := b0.keep0 c1
      replace b1 := b1.keep0 c1
      replace hs := hs.keep0 c1
      replace hch := hch.then c1
      have b8 := Blk3.alloc w23 (.bool z8.neg) (.string z8.num) (.string z8.den) 29
      have c2 : Chg [] w23 (w23.alloc (.cells #[.bool z8.neg, .string z8.num, .string z8.den] 29)) := (Chg.refl _ _).alloc _
      replace b0 := b0.keep0 c2
      replace b1 := b1.keep0 c2
      replace hs := hs.keep0 c2
      replace hch := hch.then c2
      clear c1 c2
      have b0c0 := b0.c0
      have b0c1 := b0.c1
      have b0c2 := b0.c2
      have b0f0 := b0.f0
      have b0f1 := b0.f1
      have b0f2 := b0.f2
      have b0l := b0.lt
      go_wp2_with fail
      refine (simple_b HB.out z0 pam 1 f (f + c) 360 B cb _ HZ0.out.num (by omega) HZ0n.out (by omega) (by omega) (by omega) (.inl rfl) hs).mono ?_
      rintro e w24 ⟨z9, rfl, h9, c1⟩
      clear b0c0 b0c1 b0c2 b0f0 b0f1 b0f2 b0l
      rw [show pam * (accT Ls f (f + c) / ((360 : Int) : Rat)) = pam * accT Ls f (f + c) / ((360 : Int) : Rat) by grind] at h9
      obtain rfl : z9 = z8 := h9.unique HZ8.out
      clear h9
      replace b0 := b0.keep0 c1
      replace b1 := b1.keep0 c1
      replace b8 := b8.keep0 c1
      replace hs := hs.keep0 c1
      replace hch := hch.then c1
      have b9 := Blk3.alloc w24 (.bool z9.neg) (.string z9.num) (.string z9.den) 29
      have c2 : Chg [] w24 (w24.alloc (.cells #[.bool z9.neg, .string z9.num, .string z9.den] 29)) := (Chg.refl _ _).alloc _
      replace b0 := b0.keep0 c2
      replace b1 := b1.keep0 c2
      replace b8 := b8.keep0 c2
      replace hs := hs.keep0 c2
      replace hch := hch.then c2
      clear c1 c2
      clear b0 b1 hs
      go_wp2_with fail
      refine (awake_any _).mono ?_
      rintro e w25 ⟨rfl, c1⟩
      replace b8 := b8.keep0 c1
      replace b9 := b9.keep0 c1
      replace hch := hch.then c1
      clear c1
      have b8c0 := b8.c0
      have b8c1 := b8.c1
      have b8c2 := b8.c2
      have b8f0 := b8.f0
      have b8f1 := b8.f1
      have b8f2 := b8.f2
      have b8l := b8.lt
      have b9c0 := b9.c0
      have b9c1 := b9.c1
      have b9c2 := b9.c2
      have b9f0 := b9.f0
      have b9f1 := b9.f1
      have b9f2 := b9.f2
      have b9l := b9.lt
      go_wp2_with fail
      go_ret
      exact ⟨by simp, hch⟩
end Go.Proofs.Ytcfejphpflafiaa
