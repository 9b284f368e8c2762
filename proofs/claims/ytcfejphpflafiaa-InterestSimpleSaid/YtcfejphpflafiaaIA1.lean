/-
  The law InterestSimple.
-/
import Derived.Test.YtcfejphpflafiaaIA0
import Derived.Test.YtcfejphpflafiaaIX8
namespace Go.Proofs.Ytcfejphpflafiaa
open Go.RowKit Nd

set_option maxRecDepth 20000 in
set_option maxHeartbeats 4000000 in
theorem lsimple_any (x : Q3) (l : List St) (f t b : Int) (n : Nat) (A : Option Addr) (cap : Nat) (w : World) (hn : l.length = n) (hx : Sds w A l) :
    Calls Try.prog 5 #[.agg #[.bool x.neg, .string x.num, .string x.den], .slice A n cap, .int .i64 f, .int .i64 t, .int .i64 b] w fun e w' => e = .returned (.bool true) ∧ Chg [] w w' := by
  have b5 := Blk3.alloc w (.bool x.neg) (.string x.num) (.string x.den) 29
  have hch : Chg [] w (w.alloc (.cells #[.bool x.neg, .string x.num, .string x.den] 29)) := (Chg.refl _ _).alloc _
  replace hx := hx.keep0 hch
  have HN := Lib.hid hn
  clear hn
  obtain ⟨bb, HB⟩ := name_it (decide (n ≤ 10) && fewS l)
  have hfw := few_any l n A cap _ HN.out hx
  rw [HB.out] at hfw
  have HFW := Lib.hid hfw
  clear hfw
  obtain ⟨bp, HBP⟩ := name_it (shortQ x)
  have HFP := Lib.hid (fun w => Few_any x w)
  rw [HBP.out] at HFP
  have HFX := Lib.hid (fewS_fits (l := l))
  cases bb with
  | false =>
    clear HB HBP HFX
    go_enter Try.func5, Try.ntmps5
    have b5c0 := b5.c0
    have b5c1 := b5.c1
    have b5c2 := b5.c2
    have b5f0 := b5.f0
    have b5f1 := b5.f1
    have b5f2 := b5.f2
    have b5l := b5.lt
    go_wp2_with fail
    refine (HFW.out).mono ?_
    rintro e w1 ⟨rfl, c1⟩
    clear b5c0 b5c1 b5c2 b5f0 b5f1 b5f2 b5l
    replace b5 := b5.keep0 c1
    replace hx := hx.keep0 c1
    replace hch := hch.then c1
    clear c1
    go_wp2_with fail
    refine (awake_any _).mono ?_
    rintro e w2 ⟨rfl, c1⟩
    replace b5 := b5.keep0 c1
    replace hx := hx.keep0 c1
    replace hch := hch.then c1
    clear c1
    go_wp2_with fail
    go_ret
    exact ⟨rfl, hch⟩
  | true =>
    cases bp with
    | false =>
      clear HB HBP HFX
      go_enter Try.func5, Try.ntmps5
      have b5c0 := b5.c0
      have b5c1 := b5.c1
      have b5c2 := b5.c2
      have b5f0 := b5.f0
      have b5f1 := b5.f1
      have b5f2 := b5.f2
      have b5l := b5.lt
      go_wp2_with fail
      refine (HFW.out).mono ?_
      rintro e w1 ⟨rfl, c1⟩
      clear b5c0 b5c1 b5c2 b5f0 b5f1 b5f2 b5l
      replace b5 := b5.keep0 c1
      replace hx := hx.keep0 c1
      replace hch := hch.then c1
      clear c1
      have b5c0 := b5.c0
      have b5c1 := b5.c1
      have b5c2 := b5.c2
      have b5f0 := b5.f0
      have b5f1 := b5.f1
      have b5f2 := b5.f2
      have b5l := b5.lt
      go_wp2_with fail
      refine (HFP.out _).mono ?_
      rintro e w2 ⟨rfl, c1⟩
      clear b5c0 b5c1 b5c2 b5f0 b5f1 b5f2 b5l
      replace b5 := b5.keep0 c1
      replace hx := hx.keep0 c1
      replace hch := hch.then c1
      clear c1
      go_wp2_with fail
      refine (awake_any _).mono ?_
      rintro e w3 ⟨rfl, c1⟩
      replace b5 := b5.keep0 c1
      replace hx := hx.keep0 c1
      replace hch := hch.then c1
      clear c1
      go_wp2_with fail
      go_ret
      exact ⟨rfl, hch⟩
    | true =>
      have hb := HB.out
      simp only [Bool.and_eq_true, decide_eq_true_eq] at hb
      have HF := Lib.hid (HFX.out hb.2)
      have hm : n ≤ 1000000000 := by omega
      have HP : Hid (Num x (ratOf x) 24) := Lib.hid ⟨rfl, by
        have := HBP.out
        unfold shortQ at this
        simp only [Bool.and_eq_true, decide_eq_true_eq] at this
        exact ⟨this.1, this.2⟩, by omega⟩
      have HS1 := Lib.hid (fun w h => simple_any x (ratOf x) 24 l f t b n 24 A cap w HP.out (by omega) HN.out hm HF.out h)
      have HS2 := Lib.hid (fun w h => rsimple_any x (ratOf x) 24 l f t b n 24 A cap w HP.out (by omega) HN.out hm HF.out h)
      obtain ⟨er, HER⟩ := name_it (simE (ratOf x) (slQ l) f t b)
      obtain ⟨vr, HVR⟩ := name_it (simV (ratOf x) (slQ l) f t b)
      rw [HER.out, HVR.out] at HS1 HS2
      clear hb HB HBP HFX HER HVR
      go_enter Try.func5, Try.ntmps5
      have b5c0 := b5.c0
      have b5c1 := b5.c1
      have b5c2 := b5.c2
      have b5f0 := b5.f0
      have b5f1 := b5.f1
      have b5f2 := b5.f2
      have b5l := b5.lt
      go_wp2_with fail
      refine (HFW.out).mono ?_
      rintro e w1 ⟨rfl, c1⟩
      clear b5c0 b5c1 b5c2 b5f0 b5f1 b5f2 b5l
      replace b5 := b5.keep0 c1
      replace hx := hx.keep0 c1
      replace hch := hch.then c1
      clear c1
      have b5c0 := b5.c0
      have b5c1 := b5.c1
      have b5c2 := b5.c2
      have b5f0 := b5.f0
      have b5f1 := b5.f1
      have b5f2 := b5.f2
      have b5l := b5.lt
      go_wp2_with fail
      refine (HFP.out _).mono ?_
      rintro e w2 ⟨rfl, c1⟩
      clear b5c0 b5c1 b5c2 b5f0 b5f1 b5f2 b5l
      replace b5 := b5.keep0 c1
      replace hx := hx.keep0 c1
      replace hch := hch.then c1
      clear c1
      have b5c0 := b5.c0
      have b5c1 := b5.c1
      have b5c2 := b5.c2
      have b5f0 := b5.f0
      have b5f1 := b5.f1
      have b5f2 := b5.f2
      have b5l := b5.lt
      go_wp2_with fail
      refine (HS1.out _ hx).mono ?_
      rintro e w3 ⟨z1, rfl, h1, c1⟩
      clear b5c0 b5c1 b5c2 b5f0 b5f1 b5f2 b5l
      have H1 := Lib.hid h1
      clear h1
      replace b5 := b5.keep0 c1
      replace hx := hx.keep0 c1
      replace hch := hch.then c1
      have b1 := Blk3.alloc w3 (.bool z1.neg) (.string z1.num) (.string z1.den) 29
      have c2 : Chg [] w3 (w3.alloc (.cells #[.bool z1.neg, .string z1.num, .string z1.den] 29)) := (Chg.refl _ _).alloc _
      replace b5 := b5.keep0 c2
      replace hx := hx.keep0 c2
      replace hch := hch.then c2
      clear c1 c2
      have b5c0 := b5.c0
      have b5c1 := b5.c1
      have b5c2 := b5.c2
      have b5f0 := b5.f0
      have b5f1 := b5.f1
      have b5f2 := b5.f2
      have b5l := b5.lt
      go_wp2_with fail
      refine (HS2.out _ hx).mono ?_
      rintro e w4 ⟨z2, rfl, h2, c1⟩
      clear b5c0 b5c1 b5c2 b5f0 b5f1 b5f2 b5l
      obtain rfl : z2 = z1 := h2.unique H1.out
      clear h2
      replace b5 := b5.keep0 c1
      replace b1 := b1.keep0 c1
      replace hx := hx.keep0 c1
      replace hch := hch.then c1
      have b2 := Blk3.alloc w4 (.bool z2.neg) (.string z2.num) (.string z2.den) 29
      have c2 : Chg [] w4 (w4.alloc (.cells #[.bool z2.neg, .string z2.num, .string z2.den] 29)) := (Chg.refl _ _).alloc _
      replace b5 := b5.keep0 c2
      replace b1 := b1.keep0 c2
      replace hx := hx.keep0 c2
      replace hch := hch.then c2
      clear c1 c2
      clear hx b5
      go_wp2_with fail
      refine (awake_any _).mono ?_
      rintro e w5 ⟨rfl, c1⟩
      replace b1 := b1.keep0 c1
      replace b2 := b2.keep0 c1
      replace hch := hch.then c1
      clear c1
      have b1c0 := b1.c0
      have b1c1 := b1.c1
      have b1c2 := b1.c2
      have b1f0 := b1.f0
      have b1f1 := b1.f1
      have b1f2 := b1.f2
      have b1l := b1.lt
      have b2c0 := b2.c0
      have b2c1 := b2.c1
      have b2c2 := b2.c2
      have b2f0 := b2.f0
      have b2f1 := b2.f1
      have b2f2 := b2.f2
      have b2l := b2.lt
      go_wp2_with fail
      go_ret
      exact ⟨by simp, hch⟩
end Go.Proofs.Ytcfejphpflafiaa
