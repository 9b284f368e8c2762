/-
  Currency: the law CurrencyQuoted.
-/
import Derived.Test.YtkdcffcgedhllaaKQ
namespace Go.Proofs.Ytkdcffcgedhllaa
open Go.RowKit Nd

section
variable {xs : List Qt} (hB : BQ xs) {B : Option Addr} {cb : Nat} (h1 : xs.length ≤ cb) (h2 : cb ≤ 9223372036854775807)
include hB h1 h2
theorem brate (c : ByteArray) (d : Int) (w : World) (hs : SQt w B xs) :
    Calls Try.prog 15 #[.slice B xs.length cb, .string c, .int .i64 d] w fun e w' => e = .returned (.tuple #[.agg #[.bool (rtV xs c d).neg, .string (rtV xs c d).num, .string (rtV xs c d).den], .int .i64 (rtE xs c d)]) ∧ Chg [] w w' := qrate_any xs c d xs.length 1 B cb w rfl (by have := hB.len; omega) h1 h2 hB.fit hs
theorem bconvert (x : Q3) (p : Rat) (kp : Nat) (f t : ByteArray) (d : Int) (w : World) (hp : Num x p kp) (hkp : kp ≤ 1000000000) (hs : SQt w B xs) :
    Calls Try.prog 18 #[.slice B xs.length cb, .agg #[.bool x.neg, .string x.num, .string x.den], .string f, .string t, .int .i64 d] w fun e w' => ∃ z, e = .returned (.tuple #[.agg #[.bool z.neg, .string z.num, .string z.den], .int .i64 (cvE xs f t d)]) ∧ Val z (cvV p xs f t d) (kp + 1 + 1) ∧ Chg [] w w' := qconvert_any xs x p kp f t d xs.length 1 B cb w rfl (by have := hB.len; omega) h1 h2 hB.fit hp hkp hs
end
theorem berate {xs : List Qt} (hB : BQ xs) {B : Option Addr} {cb : Nat} (c : ByteArray) (d : Int) (w : World) (hs : SQt w B xs) :
    Calls Try.prog 16 #[.slice B xs.length cb, .string c, .int .i64 d] w fun e w' => e = .returned (.tuple #[.agg #[.bool (rtV xs c d).neg, .string (rtV xs c d).num, .string (rtV xs c d).den], .int .i64 (rtE xs c d)]) ∧ Chg [] w w' := erate_any xs c d xs.length 1 B cb w rfl (by have := hB.len; omega) hB.fit hs
theorem beconvert {xs : List Qt} (hB : BQ xs) {B : Option Addr} {cb : Nat} (x : Q3) (p : Rat) (kp : Nat) (f t : ByteArray) (d : Int) (w : World) (hp : Num x p kp) (hkp : kp ≤ 1000000000) (hs : SQt w B xs) :
    Calls Try.prog 19 #[.slice B xs.length cb, .agg #[.bool x.neg, .string x.num, .string x.den], .string f, .string t, .int .i64 d] w fun e w' => ∃ z, e = .returned (.tuple #[.agg #[.bool z.neg, .string z.num, .string z.den], .int .i64 (cvE xs f t d)]) ∧ Val z (cvV p xs f t d) (kp + 1 + 1) ∧ Chg [] w w' := econvert_any xs x p kp f t d xs.length 1 B cb w rfl (by have := hB.len; omega) hB.fit hp hkp hs

set_option maxRecDepth 20000 in
set_option maxHeartbeats 4000000 in
theorem lqquoted_any (L : List T3) (am a b dd : Int) (n : Nat) (A : Option Addr) (cap : Nat) (w : World) (ham : 0 ≤ am ∧ am ≤ 65535) (ha : 0 ≤ a ∧ a ≤ 255) (hb : 0 ≤ b ∧ b ≤ 255) (hdd : 0 ≤ dd ∧ dd ≤ 255) (hn : L.length = n) (hr : ∀ x ∈ L, InT3 x) (hx : ST3 w A L) :
    Calls Try.prog 7 #[.slice A n cap, .int .u16 am, .int .u8 a, .int .u8 b, .int .u8 dd] w fun e w' => e = .returned (.bool true) ∧ Chg [] w w' := by
  have hch : Chg [] w w := Chg.refl _ _
  have HN := Lib.hid hn
  have HR := Lib.hid hr
  obtain ⟨d, HD⟩ := name_it (dd % 50)
  have fd1 : dd % 50 = d := HD.out
  have fd2 : dd.tmod 50 = d := by rw [Int.tmod_eq_emod_of_nonneg hdd.1]; exact HD.out
  have HA1 := Lib.hid ha
  have HB1 := Lib.hid hb
  have HAM := Lib.hid ham
  have hd1 : 0 ≤ d := by omega
  have hd2 : d ≤ 49 := by omega
  clear hn hr ha hb ham
  have dd1 := hdd.1
  have dd2 := hdd.2
  clear hdd HD
  have HCA := Lib.hid (fun w => code_any a w HA1.out.1 HA1.out.2)
  have HCB := Lib.hid (fun w => code_any b w HB1.out.1 HB1.out.2)
  obtain ⟨ca, HCA2⟩ := name_it (codeQ a)
  obtain ⟨cc, HCB2⟩ := name_it (codeQ b)
  rw [HCA2.out] at HCA
  rw [HCB2.out] at HCB
  clear HCA2 HCB2
  go_enter Try.func7, Try.ntmps7
  go_wp2_with fail
  refine (quotes_any L n A cap _ HN.out HR.out hx).mono ?_
  rintro e w1 ⟨v, xs, rfl, hown, hbq, -, c1⟩
  obtain ⟨B, cb, rfl, hc1, hc2, hs⟩ := hown.rds
  have HR1 := Lib.hid (fun w h => brate (B := B) hbq hc1 hc2 ca d w h)
  have HR2 := Lib.hid (fun w h => berate (B := B) (cb := cb) hbq ca d w h)
  obtain ⟨er, HER⟩ := name_it (rtE xs ca d)
  obtain ⟨zr, HVR⟩ := name_it (rtV xs ca d)
  rw [HER.out, HVR.out] at HR1 HR2
  have HK1 := Lib.hid (fun w x p hp h => bconvert (B := B) hbq hc1 hc2 x p 1 ca cc d w hp (by omega) h)
  have HK2 := Lib.hid (fun w x p hp h => beconvert (B := B) (cb := cb) hbq x p 1 ca cc d w hp (by omega) h)
  obtain ⟨ec, HEC⟩ := name_it (cvE xs ca cc d)
  rw [HEC.out] at HK1 HK2
  clear hown hbq hc1 hc2 hx HER HVR HEC
  replace hch := hch.then c1
  clear c1
  go_wp2_with fail
  refine (HCA.out _).mono ?_
  rintro e w11 ⟨rfl, c1⟩
  replace hs := hs.keep0 c1
  replace hch := hch.then c1
  clear c1
  go_wp2_with fail
  refine (HR1.out _ hs).mono ?_
  rintro e w12 ⟨rfl, c1⟩
  replace hs := hs.keep0 c1
  replace hch := hch.then c1
  have b1 := Blk3.alloc w12 (.bool zr.neg) (.string zr.num) (.string zr.den) 30
  have c2 : Chg [] w12 (w12.alloc (.cells #[.bool zr.neg, .string zr.num, .string zr.den] 30)) := (Chg.refl _ _).alloc _
  replace hs := hs.keep0 c2
  replace hch := hch.then c2
  clear c1 c2
  go_wp2_with fail
  refine (HCA.out _).mono ?_
  rintro e w13 ⟨rfl, c1⟩
  replace b1 := b1.keep0 c1
  replace hs := hs.keep0 c1
  replace hch := hch.then c1
  clear c1
  go_wp2_with fail
  refine (HR2.out _ hs).mono ?_
  rintro e w14 ⟨rfl, c1⟩
  replace b1 := b1.keep0 c1
  replace hs := hs.keep0 c1
  replace hch := hch.then c1
  have b2 := Blk3.alloc w14 (.bool zr.neg) (.string zr.num) (.string zr.den) 30
  have c2 : Chg [] w14 (w14.alloc (.cells #[.bool zr.neg, .string zr.num, .string zr.den] 30)) := (Chg.refl _ _).alloc _
  replace b1 := b1.keep0 c2
  replace hs := hs.keep0 c2
  replace hch := hch.then c2
  clear c1 c2
  go_wp2_with fail
  refine (lsigned_any am _ HAM.out.1 HAM.out.2).mono ?_
  rintro e w15 ⟨z0, rfl, h0, c1⟩
  have H0 := Lib.hid h0
  clear h0
  obtain ⟨p0, HP0⟩ := name_it (sgnQ am)
  rw [HP0.out] at H0
  replace b1 := b1.keep0 c1
  replace b2 := b2.keep0 c1
  replace hs := hs.keep0 c1
  replace hch := hch.then c1
  clear c1
  go_wp2_with fail
  refine (HCA.out _).mono ?_
  rintro e w16 ⟨rfl, c1⟩
  replace b1 := b1.keep0 c1
  replace b2 := b2.keep0 c1
  replace hs := hs.keep0 c1
  replace hch := hch.then c1
  clear c1
  go_wp2_with fail
  refine (HCB.out _).mono ?_
  rintro e w17 ⟨rfl, c1⟩
  replace b1 := b1.keep0 c1
  replace b2 := b2.keep0 c1
  replace hs := hs.keep0 c1
  replace hch := hch.then c1
  clear c1
  go_wp2_with fail
  refine (HK1.out _ z0 p0 H0.out.num hs).mono ?_
  rintro e w18 ⟨z1, rfl, h1, c1⟩
  have H1 := Lib.hid h1
  clear h1
  replace b1 := b1.keep0 c1
  replace b2 := b2.keep0 c1
  replace hs := hs.keep0 c1
  replace hch := hch.then c1
  have b3 := Blk3.alloc w18 (.bool z1.neg) (.string z1.num) (.string z1.den) 30
  have c2 : Chg [] w18 (w18.alloc (.cells #[.bool z1.neg, .string z1.num, .string z1.den] 30)) := (Chg.refl _ _).alloc _
  replace b1 := b1.keep0 c2
  replace b2 := b2.keep0 c2
  replace hs := hs.keep0 c2
  replace hch := hch.then c2
  clear c1 c2
  go_wp2_with fail
  refine (lsigned_any am _ HAM.out.1 HAM.out.2).mono ?_
  rintro e w19 ⟨z9, rfl, h9, c1⟩
  obtain rfl : z9 = z0 := h9.unique (by rw [HP0.out]; exact H0.out)
  clear h9
  replace b1 := b1.keep0 c1
  replace b2 := b2.keep0 c1
  replace b3 := b3.keep0 c1
  replace hs := hs.keep0 c1
  replace hch := hch.then c1
  clear c1
  go_wp2_with fail
  refine (HCA.out _).mono ?_
  rintro e w20 ⟨rfl, c1⟩
  replace b1 := b1.keep0 c1
  replace b2 := b2.keep0 c1
  replace b3 := b3.keep0 c1
  replace hs := hs.keep0 c1
  replace hch := hch.then c1
  clear c1
  go_wp2_with fail
  refine (HCB.out _).mono ?_
  rintro e w21 ⟨rfl, c1⟩
  replace b1 := b1.keep0 c1
  replace b2 := b2.keep0 c1
  replace b3 := b3.keep0 c1
  replace hs := hs.keep0 c1
  replace hch := hch.then c1
  clear c1
  go_wp2_with fail
  refine (HK2.out _ z9 p0 H0.out.num hs).mono ?_
  rintro e w22 ⟨z2, rfl, h2, c1⟩
  obtain rfl : z2 = z1 := h2.unique H1.out
  clear h2
  replace b1 := b1.keep0 c1
  replace b2 := b2.keep0 c1
  replace b3 := b3.keep0 c1
  replace hs := hs.keep0 c1
  replace hch := hch.then c1
  have b4 := Blk3.alloc w22 (.bool z2.neg) (.string z2.num) (.string z2.den) 30
  have c2 : Chg [] w22 (w22.alloc (.cells #[.bool z2.neg, .string z2.num, .string z2.den] 30)) := (Chg.refl _ _).alloc _
  replace b1 := b1.keep0 c2
  replace b2 := b2.keep0 c2
  replace b3 := b3.keep0 c2
  replace hs := hs.keep0 c2
  replace hch := hch.then c2
  clear c1 c2
  clear hs
  go_wp2_with fail
  refine (awake7_any _).mono ?_
  rintro e w23 ⟨rfl, c1⟩
  replace b1 := b1.keep0 c1
  replace b2 := b2.keep0 c1
  replace b3 := b3.keep0 c1
  replace b4 := b4.keep0 c1
  replace hch := hch.then c1
  clear c1
  have b1c0 := b1.c0
  have b1c1 := b1.c1
  have b1c2 := b1.c2
  have b1f0 := b1.f0
  have b1f1 := b1.f1
  have b1f2 := b1.f2
  have b1l := b1.lt
  have b2c0 := b2.c0
  have b2c1 := b2.c1
  have b2c2 := b2.c2
  have b2f0 := b2.f0
  have b2f1 := b2.f1
  have b2f2 := b2.f2
  have b2l := b2.lt
  have b3c0 := b3.c0
  have b3c1 := b3.c1
  have b3c2 := b3.c2
  have b3f0 := b3.f0
  have b3f1 := b3.f1
  have b3f2 := b3.f2
  have b3l := b3.lt
  have b4c0 := b4.c0
  have b4c1 := b4.c1
  have b4c2 := b4.c2
  have b4f0 := b4.f0
  have b4f1 := b4.f1
  have b4f2 := b4.f2
  have b4l := b4.lt
  go_wp2_with fail
  go_ret
  exact ⟨by simp, hch⟩
end Go.Proofs.Ytkdcffcgedhllaa
