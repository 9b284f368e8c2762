/-
  The law InterestCompound.
-/
import Derived.Test.YtcfejphpflafiaaIA0
import Derived.Test.YtcfejphpflafiaaIX9
namespace Go.Proofs.Ytcfejphpflafiaa
open Go.RowKit Nd

set_option maxRecDepth 20000 in
set_option maxHeartbeats 4000000 in
theorem lcompound_any (x : Q3) (l : List St) (f t b n : Int) (m : Nat) (A : Option Addr) (cap : Nat) (w : World) (_ : -9223372036854775808 ≤ f ∧ f ≤ 9223372036854775807) (_ : -9223372036854775808 ≤ t ∧ t ≤ 9223372036854775807) (hn2 : -9223372036854775808 ≤ n ∧ n ≤ 9223372036854775807) (hm0 : l.length = m) (hx : Sds w A l) :
    Calls Try.prog 7 #[.agg #[.bool x.neg, .string x.num, .string x.den], .slice A m cap, .int .i64 f, .int .i64 t, .int .i64 b, .int .i64 n] w fun e w' => e = .returned (.bool true) ∧ Chg [] w w' := by
  have b6 := Blk3.alloc w (.bool x.neg) (.string x.num) (.string x.den) 29
  have hch : Chg [] w (w.alloc (.cells #[.bool x.neg, .string x.num, .string x.den] 29)) := (Chg.refl _ _).alloc _
  replace hx := hx.keep0 hch
  have HN := Lib.hid hm0
  clear hm0
  obtain ⟨bb, HB⟩ := name_it (decide (m ≤ 10) && fewS l)
  have hfw := few_any l m A cap _ HN.out hx
  rw [HB.out] at hfw
  have HFW := Lib.hid hfw
  clear hfw
  obtain ⟨bp, HBP⟩ := name_it (shortQ x)
  have HFP := Lib.hid (fun w => Few_any x w)
  rw [HBP.out] at HFP
  have HFX := Lib.hid (fewS_fits (l := l))
  cases bb with
  | false =>
    clear HB HBP HFX
    go_enter Try.func7, Try.ntmps7
    have b6c0 := b6.c0
    have b6c1 := b6.c1
    have b6c2 := b6.c2
    have b6f0 := b6.f0
    have b6f1 := b6.f1
    have b6f2 := b6.f2
    have b6l := b6.lt
    go_wp2_with fail
    refine (HFW.out).mono ?_
    rintro e w1 ⟨rfl, c1⟩
    clear b6c0 b6c1 b6c2 b6f0 b6f1 b6f2 b6l
    replace b6 := b6.keep0 c1
    replace hx := hx.keep0 c1
    replace hch := hch.then c1
    clear c1
    go_wp2_with fail
    refine (awake_any _).mono ?_
    rintro e w2 ⟨rfl, c1⟩
    replace b6 := b6.keep0 c1
    replace hx := hx.keep0 c1
    replace hch := hch.then c1
    clear c1
    go_wp2_with fail
    go_ret
    exact ⟨rfl, hch⟩
  | true =>
    cases bp with
    | false =>
      clear HB HBP HFX
      go_enter Try.func7, Try.ntmps7
      have b6c0 := b6.c0
      have b6c1 := b6.c1
      have b6c2 := b6.c2
      have b6f0 := b6.f0
      have b6f1 := b6.f1
      have b6f2 := b6.f2
      have b6l := b6.lt
      go_wp2_with fail
      refine (HFW.out).mono ?_
      rintro e w1 ⟨rfl, c1⟩
      clear b6c0 b6c1 b6c2 b6f0 b6f1 b6f2 b6l
      replace b6 := b6.keep0 c1
      replace hx := hx.keep0 c1
      replace hch := hch.then c1
      clear c1
      have b6c0 := b6.c0
      have b6c1 := b6.c1
      have b6c2 := b6.c2
      have b6f0 := b6.f0
      have b6f1 := b6.f1
      have b6f2 := b6.f2
      have b6l := b6.lt
      go_wp2_with fail
      refine (HFP.out _).mono ?_
      rintro e w2 ⟨rfl, c1⟩
      clear b6c0 b6c1 b6c2 b6f0 b6f1 b6f2 b6l
      replace b6 := b6.keep0 c1
      replace hx := hx.keep0 c1
      replace hch := hch.then c1
      clear c1
      go_wp2_with fail
      refine (awake_any _).mono ?_
      rintro e w3 ⟨rfl, c1⟩
      replace b6 := b6.keep0 c1
      replace hx := hx.keep0 c1
      replace hch := hch.then c1
      clear c1
      go_wp2_with fail
      go_ret
      exact ⟨rfl, hch⟩
    | true =>
      have hb := HB.out
      simp only [Bool.and_eq_true, decide_eq_true_eq] at hb
      have HF := Lib.hid (HFX.out hb.2)
      have hm : m ≤ 1000000000 := by omega
      have HP : Hid (Num x (ratOf x) 24) := Lib.hid ⟨rfl, by
        have := HBP.out
        unfold shortQ at this
        simp only [Bool.and_eq_true, decide_eq_true_eq] at this
        exact ⟨this.1, this.2⟩, by omega⟩
      have HS1 := Lib.hid (fun w h => compound_any x (ratOf x) 24 l f t b n m 24 A cap w HP.out (by omega) HN.out hm HF.out hn2.2 h)
      have HS2 := Lib.hid (fun w h => rcompound_any x (ratOf x) 24 l f t b n m 24 A cap w HP.out (by omega) HN.out hm HF.out hn2.2 h)
      obtain ⟨er, HER⟩ := name_it (termsE (ratOf x) (slQ l) f t b n)
      obtain ⟨vr, HVR⟩ := name_it (cmpV (ratOf x) (slQ l) f t b n)
      rw [HER.out, HVR.out] at HS1 HS2
      clear hb HB HBP HFX HER HVR
      go_enter Try.func7, Try.ntmps7
      have b6c0 := b6.c0
      have b6c1 := b6.c1
      have b6c2 := b6.c2
      have b6f0 := b6.f0
      have b6f1 := b6.f1
      have b6f2 := b6.f2
      have b6l := b6.lt
      go_wp2_with fail
      refine (HFW.out).mono ?_
      rintro e w1 ⟨rfl, c1⟩
      clear b6c0 b6c1 b6c2 b6f0 b6f1 b6f2 b6l
      replace b6 := b6.keep0 c1
      replace hx := hx.keep0 c1
      replace hch := hch.then c1
      clear c1
      have b6c0 := b6.c0
      have b6c1 := b6.c1
      have b6c2 := b6.c2
      have b6f0 := b6.f0
      have b6f1 := b6.f1
      have b6f2 := b6.f2
      have b6l := b6.lt
      go_wp2_with fail
      refine (HFP.out _).mono ?_
      rintro e w2 ⟨rfl, c1⟩
      clear b6c0 b6c1 b6c2 b6f0 b6f1 b6f2 b6l
      replace b6 := b6.keep0 c1
      replace hx := hx.keep0 c1
      replace hch := hch.then c1
      clear c1
      have hlow : 0 < l.length → ∃ g o, A = some ⟨g, o, none⟩ ∧ g < w2.heap.size := hx.form
      have HLOW := Lib.hid hlow
      clear hlow
      go_wp2_with fail
      go_loopw [30] (fun iv wr => ∃ i : Nat, i ≤ m ∧ iv = .int .i64 i ∧ Sds wr A l ∧ Blk3 wr w.heap.size (.bool x.neg) (.string x.num) (.string x.den) ∧ Chg [] w wr) (fun iv _ => m - (intOf iv).toNat)
      case atStart => exact ⟨0, Nat.zero_le _, rfl, hx, b6, hch⟩
      case round =>
        clear hx b6 hch
        obtain ⟨i, hi, rfl, hx, b6, hch⟩ := hrel
        by_cases hlt : i < m
        · obtain ⟨g, o, rfl, hgl⟩ := HLOW.out (by rw [HN.out]; omega)
          have hc := hx.at_ (j := i) (by rw [HN.out]; exact hlt)
          obtain ⟨s, HS⟩ := name_it (l.getD i s0)
          rw [HS.out] at hc
          have hca := hc.a
          have hcb := hc.b
          have hcc := hc.c
          have hcd := hc.d
          have c4 : Chg [] wr (wr.alloc (.cells #[.int .i64 s.fr, .bool s.rt.neg, .string s.rt.num, .string s.rt.den] 49)) := (Chg.refl _ _).alloc _
          have b4 := Blk4.alloc wr (.int .i64 s.fr) (.bool s.rt.neg) (.string s.rt.num) (.string s.rt.den) 49
          have HX1 := Lib.hid (hx.keep0 c4)
          replace b6 := b6.keep0 c4
          replace hch := hch.then c4
          clear hx hc c4
          have k1 := b4.c1
          have k2 := b4.c2
          have k3 := b4.c3
          obtain ⟨n1, HN1⟩ := name_it s.rt.num.size
          obtain ⟨n2, HN2⟩ := name_it s.rt.den.size
          have hn1 := HN1.out
          have hn2' := HN2.out
          by_cases h1 : 4 < n1
          · have d1 : decide ((4 : Int) < (n1 : Int)) = true := decide_eq_true (by omega)
            have d2 : decide (4 < n1) = true := decide_eq_true (by omega)
            go_wp2_with fail
            refine (awake_any _).mono ?_
            rintro e wa ⟨rfl, c1⟩
            replace hch := hch.then c1
            go_wp2_with fail
            go_ret
            exact ⟨rfl, hch⟩
          · have d1 : decide ((4 : Int) < (n1 : Int)) = false := decide_eq_false (by omega)
            have d1n : decide (4 < n1) = false := decide_eq_false (by omega)
            by_cases h2 : 4 < n2
            · have d3 : decide ((4 : Int) < (n2 : Int)) = true := decide_eq_true (by omega)
              have d4 : decide (4 < n2) = true := decide_eq_true (by omega)
              go_wp2_with fail
              refine (awake_any _).mono ?_
              rintro e wa ⟨rfl, c1⟩
              replace hch := hch.then c1
              go_wp2_with fail
              go_ret
              exact ⟨rfl, hch⟩
            · have d3 : decide ((4 : Int) < (n2 : Int)) = false := decide_eq_false (by omega)
              have d3n : decide (4 < n2) = false := decide_eq_false (by omega)
              go_wp2_with fail
              go_roundw
              case rel => exact ⟨i + 1, by omega, by go_num, HX1.out, b6, hch⟩
              case measure => simp [intOf]; omega
        · have HX := Lib.hid hx
          have H6 := Lib.hid b6
          have HCH := Lib.hid hch
          clear hx b6 hch
          obtain ⟨wo, hwo⟩ : ∃ wo, wo = wr := ⟨_, rfl⟩
          subst hwo
          go_upto_region 9 with fail
          go_cut [65] (fun v wx => ∃ bq, wx = wo ∧ v = .bool bq)
          case first =>
            cases hdf : isd f with
            | false =>
              have HDF := Lib.hid hdf
              go_wp2_with (first
                | (go_at_call 27; (with_reducible refine (rIsDay_any f _ false HDF.out).mono ?_); rintro e w' ⟨rfl, hw⟩; obtain rfl := hw.symm; clear hw)
                | fail)
              go_meet
              exact ⟨_, rfl, rfl⟩
            | true =>
              have HDF := Lib.hid hdf
              cases hdt : isd t with
              | false =>
                have HDT := Lib.hid hdt
                go_wp2_with (first
                  | (go_at_call 27; (with_reducible refine (rIsDay_any f _ true HDF.out).mono ?_); rintro e w' ⟨rfl, hw⟩; obtain rfl := hw.symm; clear hw)
                  | (go_at_call 27; (with_reducible refine (rIsDay_any t _ false HDT.out).mono ?_); rintro e w' ⟨rfl, hw⟩; obtain rfl := hw.symm; clear hw)
                  | fail)
                go_meet
                exact ⟨_, rfl, rfl⟩
              | true =>
                have HDT := Lib.hid hdt
                obtain ⟨f1, f2⟩ := isd_yes hdf
                obtain ⟨t1, t2⟩ := isd_yes hdt
                clear hdf hdt
                by_cases hn1 : 1 ≤ n
                · obtain ⟨q, HQ⟩ := name_it ((t - f).tdiv n)
                  have hq := HQ.out
                  have hn0 : (n == 0) = false := by simp; omega
                  have hqr : -1048576 ≤ q ∧ q ≤ 1048576 := by
                    rw [← hq]
                    have h1 : (t - f).tdiv n ≤ (t - f).natAbs := by
                      have := Int.natAbs_tdiv_le_natAbs (t - f) n
                      omega
                    have h2 := Int.natAbs_tdiv_le_natAbs (t - f) n
                    omega
                  have hwq : IntKind.i64.wrap q = q := by rw [IntKind.wrap_i64]; omega
                  have hwq2 : wrap64 q = q := by unfold wrap64; omega
                  go_wp2_with (first
                    | (go_at_call 27; (with_reducible refine (rIsDay_any f _ true HDF.out).mono ?_); rintro e w' ⟨rfl, hw⟩; obtain rfl := hw.symm; clear hw)
                    | (go_at_call 27; (with_reducible refine (rIsDay_any t _ true HDT.out).mono ?_); rintro e w' ⟨rfl, hw⟩; obtain rfl := hw.symm; clear hw)
                    | fail)
                  go_meet
                  exact ⟨_, rfl, rfl⟩
                · go_wp2_with (first
                    | (go_at_call 27; (with_reducible refine (rIsDay_any f _ true HDF.out).mono ?_); rintro e w' ⟨rfl, hw⟩; obtain rfl := hw.symm; clear hw)
                    | (go_at_call 27; (with_reducible refine (rIsDay_any t _ true HDT.out).mono ?_); rintro e w' ⟨rfl, hw⟩; obtain rfl := hw.symm; clear hw)
                    | fail)
                  go_meet
                  exact ⟨_, rfl, rfl⟩
          case rest =>
            obtain ⟨bq, hwx, rfl⟩ := hcut
            subst hwx
            have hx := HX.out
            have b6 := H6.out
            have hch := HCH.out
            cases bq with
            | true =>
              go_wp2_with fail
              refine (awake_any _).mono ?_
              rintro e w3 ⟨rfl, c1⟩
              replace b6 := b6.keep0 c1
              replace hx := hx.keep0 c1
              replace hch := hch.then c1
              clear c1
              go_wp2_with fail
              go_ret
              exact ⟨rfl, hch⟩
            | false =>
              have b6c0 := b6.c0
              have b6c1 := b6.c1
              have b6c2 := b6.c2
              have b6f0 := b6.f0
              have b6f1 := b6.f1
              have b6f2 := b6.f2
              have b6l := b6.lt
              go_wp2_with fail
              refine (HS1.out _ hx).mono ?_
              rintro e w4 ⟨z1, rfl, h1, c1⟩
              clear b6c0 b6c1 b6c2 b6f0 b6f1 b6f2 b6l
              have H1 := Lib.hid h1
              clear h1
              replace b6 := b6.keep0 c1
              replace hx := hx.keep0 c1
              replace hch := hch.then c1
              have b1 := Blk3.alloc w4 (.bool z1.neg) (.string z1.num) (.string z1.den) 29
              have c2 : Chg [] w4 (w4.alloc (.cells #[.bool z1.neg, .string z1.num, .string z1.den] 29)) := (Chg.refl _ _).alloc _
              replace b6 := b6.keep0 c2
              replace hx := hx.keep0 c2
              replace hch := hch.then c2
              clear c1 c2
              have b6c0 := b6.c0
              have b6c1 := b6.c1
              have b6c2 := b6.c2
              have b6f0 := b6.f0
              have b6f1 := b6.f1
              have b6f2 := b6.f2
              have b6l := b6.lt
              go_wp2_with fail
              refine (HS2.out _ hx).mono ?_
              rintro e w5 ⟨z2, rfl, h2, c1⟩
              clear b6c0 b6c1 b6c2 b6f0 b6f1 b6f2 b6l
              obtain rfl : z2 = z1 := h2.unique H1.out
              clear h2
              replace b6 := b6.keep0 c1
              replace b1 := b1.keep0 c1
              replace hx := hx.keep0 c1
              replace hch := hch.then c1
              have b2 := Blk3.alloc w5 (.bool z2.neg) (.string z2.num) (.string z2.den) 29
              have c2 : Chg [] w5 (w5.alloc (.cells #[.bool z2.neg, .string z2.num, .string z2.den] 29)) := (Chg.refl _ _).alloc _
              replace b6 := b6.keep0 c2
              replace b1 := b1.keep0 c2
              replace hx := hx.keep0 c2
              replace hch := hch.then c2
              clear c1 c2
              clear hx b6
              go_wp2_with fail
              refine (awake_any _).mono ?_
              rintro e w6 ⟨rfl, c1⟩
              replace b1 := b1.keep0 c1
              replace b2 := b2.keep0 c1
              replace hch := hch.then c1
              clear c1
              have b1c0 := b1.c0
              have b1c1 := b1.c1
              have b1c2 := b1.c2
              have b1f0 := b1.f0
              have b1f1 := b1.f1
              have b1f2 := b1.f2
              have b1l := b1.lt
              have b2c0 := b2.c0
              have b2c1 := b2.c1
              have b2c2 := b2.c2
              have b2f0 := b2.f0
              have b2f1 := b2.f1
              have b2f2 := b2.f2
              have b2l := b2.lt
              go_wp2_with fail
              go_ret
              exact ⟨by simp, hch⟩
end Go.Proofs.Ytcfejphpflafiaa
