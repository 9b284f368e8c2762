/-
  Currency: awake; the laws CurrencyCheck, CurrencyRate, CurrencyConvert.
-/
import Derived.Test.YtkdcffcgedhllaaKL0
namespace Go.Proofs.Ytkdcffcgedhllaa
open Go.RowKit Nd

theorem usd_size : usd.size ≤ 1000 := by decide
theorem rat910 : (0 : Rat) < sq (fsg 9 10) (9 : Int).natAbs (10 : Int).natAbs ∧ (0 : Rat) < sq (fsg 8 10) (8 : Int).natAbs (10 : Int).natAbs ∧ sq (fsg 4 5) (4 : Int).natAbs (5 : Int).natAbs = sq (fsg 8 10) (8 : Int).natAbs (10 : Int).natAbs := by decide +kernel

set_option maxRecDepth 20000 in
set_option maxHeartbeats 4000000 in
theorem awake7_any (w : World) : Calls Try.prog 11 #[] w fun e w' => e = .returned (.bool true) ∧ Chg [] w w' := by
  have hch : Chg [] w w := Chg.refl _ _
  go_enter Try.func11, Try.ntmps11
  go_wp2_with fail
  refine (ratio_any 9 10 _ (by omega) (by omega) (by omega) (by omega)).mono ?_
  rintro e w1 ⟨z1, rfl, h1, c1⟩
  have H1 := Lib.hid h1
  replace hch := hch.then c1
  clear c1 h1
  go_wp2_with fail
  refine (ratio_any 8 10 _ (by omega) (by omega) (by omega) (by omega)).mono ?_
  rintro e w2 ⟨z2, rfl, h2, c1⟩
  have H2 := Lib.hid h2
  replace hch := hch.then c1
  clear c1 h2
  have hx := sQt_two w2 ⟨usd, 5, z1⟩ ⟨usd, 2, z2⟩
  have c2 : Chg [] w2 (w2.alloc (.cells #[.string usd, .int .i64 5, .bool z1.neg, .string z1.num, .string z1.den, .string usd, .int .i64 2, .bool z2.neg, .string z2.num, .string z2.den] 33)) := (Chg.refl _ _).alloc _
  replace hch := hch.then c2
  clear c2
  have p1 : 0 < ratOf z1 := by rw [H1.out.num.rat]; exact rat910.1
  have p2 : 0 < ratOf z2 := by rw [H2.out.num.rat]; exact rat910.2.1
  obtain ⟨⟨x1, x2⟩, ⟨x3, x4⟩, x5⟩ := ex_rt p1 p2
  have x6 := (rt_on (l := [⟨usd, 5, z1⟩, ⟨usd, 2, z2⟩]) (c := usd) (d := 1))
  have HFT : Hid (FitQ [(⟨usd, 5, z1⟩ : Qt), ⟨usd, 2, z2⟩] 8) := Lib.hid ⟨by omega, by omega, fun s hs => by
      simp only [List.mem_cons, List.not_mem_nil, or_false] at hs
      rcases hs with rfl | rfl
      · exact H1.out.num.fit
      · exact H2.out.num.fit, fun s hs => by
      simp only [List.mem_cons, List.not_mem_nil, or_false] at hs
      rcases hs with rfl | rfl <;> exact usd_size⟩
  have HR4 := Lib.hid (fun w h => qrate_any [⟨usd, 5, z1⟩, ⟨usd, 2, z2⟩] usd 4 2 8 (some ⟨w2.heap.size, 0, none⟩) 2 w rfl (by omega) (by omega) (by omega) HFT.out h)
  have HR5 := Lib.hid (fun w h => qrate_any [⟨usd, 5, z1⟩, ⟨usd, 2, z2⟩] usd 5 2 8 (some ⟨w2.heap.size, 0, none⟩) 2 w rfl (by omega) (by omega) (by omega) HFT.out h)
  have HR1 := Lib.hid (fun w h => qrate_any [⟨usd, 5, z1⟩, ⟨usd, 2, z2⟩] usd 1 2 8 (some ⟨w2.heap.size, 0, none⟩) 2 w rfl (by omega) (by omega) (by omega) HFT.out h)
  rw [x1, x2] at HR4
  rw [x3, x4] at HR5
  rw [x5] at HR1
  obtain ⟨z5, HZ5⟩ := name_it (rtV [⟨usd, 5, z1⟩, ⟨usd, 2, z2⟩] usd 1)
  rw [HZ5.out] at HR1
  clear x1 x2 x3 x4 x5 x6 HZ5 p1 p2
  go_wp2_with fail
  refine (HR4.out _ hx).mono ?_
  rintro e w3 ⟨rfl, c1⟩
  replace hch := hch.then c1
  replace hx := hx.keep0 c1
  have c2 : Chg [] w3 (w3.alloc (.cells #[.bool z2.neg, .string z2.num, .string z2.den] 30)) := (Chg.refl _ _).alloc _
  have b2 := Blk3.alloc w3 (.bool z2.neg) (.string z2.num) (.string z2.den) 30
  replace hch := hch.then c2
  replace hx := hx.keep0 c2
  clear c1 c2
  go_wp2_with fail
  refine (HR5.out _ hx).mono ?_
  rintro e w4 ⟨rfl, c1⟩
  replace hch := hch.then c1
  replace hx := hx.keep0 c1
  replace b2 := b2.keep0 c1
  have c2 : Chg [] w4 (w4.alloc (.cells #[.bool z1.neg, .string z1.num, .string z1.den] 30)) := (Chg.refl _ _).alloc _
  have b1 := Blk3.alloc w4 (.bool z1.neg) (.string z1.num) (.string z1.den) 30
  replace hch := hch.then c2
  replace hx := hx.keep0 c2
  replace b2 := b2.keep0 c2
  clear c1 c2
  go_wp2_with fail
  refine (HR1.out _ hx).mono ?_
  rintro e w5 ⟨rfl, c1⟩
  replace hch := hch.then c1
  replace b2 := b2.keep0 c1
  replace b1 := b1.keep0 c1
  have c2 : Chg [] w5 (w5.alloc (.cells #[.bool z5.neg, .string z5.num, .string z5.den] 30)) := (Chg.refl _ _).alloc _
  replace hch := hch.then c2
  replace b2 := b2.keep0 c2
  replace b1 := b1.keep0 c2
  clear c1 c2 hx
  go_wp2_with fail
  obtain ⟨w6, HW6⟩ := name_it (w5.alloc (.cells #[.bool z5.neg, .string z5.num, .string z5.den] 30))
  rw [HW6.out] at b1 b2 hch ⊢
  obtain ⟨g2, G2⟩ := name_it w3.heap.size
  obtain ⟨g1, G1⟩ := name_it w4.heap.size
  rw [G2.out] at b2 ⊢
  rw [G1.out] at b1 ⊢
  clear HW6 G1 G2 HR4 HR5 HR1 HFT
  have c8 : Chg [] w6 w6.drew := (Chg.refl _ _).drew
  replace b1 := b1.keep c8 (by simp)
  replace b2 := b2.keep c8 (by simp)
  replace hch := hch.then c8
  clear c8
  go_region_held3 (fun w' => w'.cell? ⟨g1, 0, none⟩ = some (.bool z1.neg) ∧ w'.cell? ⟨g1, 1, none⟩ = some (.string z1.num) ∧ w'.cell? ⟨g1, 2, none⟩ = some (.string z1.den) ∧ w'.cell? ⟨g2, 0, none⟩ = some (.bool z2.neg) ∧ w'.cell? ⟨g2, 1, none⟩ = some (.string z2.num) ∧ w'.cell? ⟨g2, 2, none⟩ = some (.string z2.den)) (first | exact ⟨b1.c0, b1.c1, b1.c2, b2.c0, b2.c1, b2.c2⟩) (first
    | (go_at_call 23
       (with_reducible refine (ratio_any 4 5 _ (by omega) (by omega) (by omega) (by omega)).mono ?_)
       rintro e w7 ⟨z9, rfl, hz9, c10⟩
       rw [rat910.2.2] at hz9
       have e9 : z9 = z2 := hz9.unique H2.out
       rw [e9]
       clear e9 hz9
       replace b1 := b1.keep0 c10
       replace b2 := b2.keep0 c10
       replace hch := hch.then c10
       clear c10)
    | (go_at_call 23
       (with_reducible refine (ratio_any 9 10 _ (by omega) (by omega) (by omega) (by omega)).mono ?_)
       rintro e w7 ⟨z8, rfl, hz8, c10⟩
       have e8 : z8 = z1 := hz8.unique H1.out
       rw [e8]
       clear e8 hz8
       replace b1 := b1.keep0 c10
       replace b2 := b2.keep0 c10
       replace hch := hch.then c10
       clear c10)
    | fail)
  all_goals
    go_wp2_with fail
    go_ret
    exact ⟨rfl, hch⟩

set_option maxRecDepth 20000 in
set_option maxHeartbeats 2000000 in
theorem lqcheck_any (l : List Qt) (n : Nat) (A : Option Addr) (cap : Nat) (w : World) (hn : l.length = n) (hcp : n ≤ cap) (hcp2 : cap ≤ 9223372036854775807) (hx : SQt w A l) :
    Calls Try.prog 3 #[.slice A n cap] w fun e w' => e = .returned (.bool true) ∧ Chg [] w w' := by
  have hch : Chg [] w w := Chg.refl _ _
  have HN := Lib.hid hn
  clear hn
  obtain ⟨b, HB⟩ := name_it (decide (n ≤ 12) && fewK l)
  have hfw := kfew_any l n A cap w HN.out hx
  rw [HB.out] at hfw
  have HFW := Lib.hid hfw
  clear hfw
  cases b with
  | false =>
    clear HB
    go_enter Try.func3, Try.ntmps3
    go_wp2_with (first
      | (go_at_call 10; (with_reducible refine HFW.out.mono ?_); rintro e w1 ⟨rfl, c1⟩; replace hch := hch.then c1; clear c1)
      | (go_at_call 11; (with_reducible refine (awake7_any _).mono ?_); rintro e w2 ⟨rfl, c2⟩; replace hch := hch.then c2; clear c2)
      | fail)
    go_ret
    exact ⟨rfl, hch⟩
  | true =>
    have hb := HB.out
    simp only [Bool.and_eq_true, decide_eq_true_eq] at hb
    have HF := Lib.hid (fewK_fits hb.2)
    have hm : n ≤ 1000000000 := by omega
    have HC1 := Lib.hid (fun w h => qcheck_any l n 24 A cap w HN.out hm hcp hcp2 HF.out h)
    have HC2 := Lib.hid (fun w h => rqcheck_any l n 24 A cap w HN.out hm HF.out h)
    clear hb HB hcp hcp2
    go_enter Try.func3, Try.ntmps3
    go_wp2_with (first
      | (go_at_call 10; (with_reducible refine HFW.out.mono ?_); rintro e w1 ⟨rfl, c1⟩; replace hch := hch.then c1; have hx1 := hx.keep0 c1; clear c1)
      | (go_at_call 11; (with_reducible refine (awake7_any _).mono ?_); rintro e w2 ⟨rfl, c2⟩; replace hch := hch.then c2; have hx2 := hx1.keep0 c2; clear c2)
      | (go_at_call 12; (with_reducible refine (HC1.out _ hx2).mono ?_); rintro e w3 ⟨rfl, c3⟩; replace hch := hch.then c3; have hx3 := hx2.keep0 c3; clear c3)
      | (go_at_call 13; (with_reducible refine (HC2.out _ hx3).mono ?_); rintro e w4 ⟨rfl, c4⟩; replace hch := hch.then c4; clear c4)
      | fail)
    go_ret
    exact ⟨by simp, hch⟩

set_option maxRecDepth 20000 in
set_option maxHeartbeats 2000000 in
theorem lqrate_any (l : List Qt) (c : ByteArray) (d : Int) (n : Nat) (A : Option Addr) (cap : Nat) (w : World) (hn : l.length = n) (hcp : n ≤ cap) (hcp2 : cap ≤ 9223372036854775807) (hx : SQt w A l) :
    Calls Try.prog 5 #[.slice A n cap, .string c, .int .i64 d] w fun e w' => e = .returned (.bool true) ∧ Chg [] w w' := by
  have hch : Chg [] w w := Chg.refl _ _
  have HN := Lib.hid hn
  clear hn
  obtain ⟨b, HB⟩ := name_it (decide (n ≤ 12) && fewK l)
  have hfw := kfew_any l n A cap w HN.out hx
  rw [HB.out] at hfw
  have HFW := Lib.hid hfw
  clear hfw
  cases b with
  | false =>
    clear HB
    go_enter Try.func5, Try.ntmps5
    go_wp2_with (first
      | (go_at_call 10; (with_reducible refine HFW.out.mono ?_); rintro e w1 ⟨rfl, c1⟩; replace hch := hch.then c1; clear c1)
      | (go_at_call 11; (with_reducible refine (awake7_any _).mono ?_); rintro e w2 ⟨rfl, c2⟩; replace hch := hch.then c2; clear c2)
      | fail)
    go_ret
    exact ⟨rfl, hch⟩
  | true =>
    have hb := HB.out
    simp only [Bool.and_eq_true, decide_eq_true_eq] at hb
    have HF := Lib.hid (fewK_fits hb.2)
    have hm : n ≤ 1000000000 := by omega
    have HR1 := Lib.hid (fun w h => qrate_any l c d n 24 A cap w HN.out hm hcp hcp2 HF.out h)
    have HR2 := Lib.hid (fun w h => erate_any l c d n 24 A cap w HN.out hm HF.out h)
    obtain ⟨er, HER⟩ := name_it (rtE l c d)
    obtain ⟨z1, HVR⟩ := name_it (rtV l c d)
    rw [HER.out, HVR.out] at HR1 HR2
    clear hb HB HER HVR hcp hcp2
    go_enter Try.func5, Try.ntmps5
    go_wp2_with fail
    refine HFW.out.mono ?_
    rintro e w1 ⟨rfl, c1⟩
    replace hch := hch.then c1
    replace hx := hx.keep0 c1
    clear c1
    go_wp2_with fail
    refine (HR1.out _ hx).mono ?_
    rintro e w2 ⟨rfl, c1⟩
    replace hch := hch.then c1
    replace hx := hx.keep0 c1
    have c2 : Chg [] w2 (w2.alloc (.cells #[.bool z1.neg, .string z1.num, .string z1.den] 30)) := (Chg.refl _ _).alloc _
    have b1 := Blk3.alloc w2 (.bool z1.neg) (.string z1.num) (.string z1.den) 30
    replace hch := hch.then c2
    replace hx := hx.keep0 c2
    clear c1 c2
    go_wp2_with fail
    refine (HR2.out _ hx).mono ?_
    rintro e w3 ⟨rfl, c1⟩
    replace hch := hch.then c1
    replace b1 := b1.keep0 c1
    have c2 : Chg [] w3 (w3.alloc (.cells #[.bool z1.neg, .string z1.num, .string z1.den] 30)) := (Chg.refl _ _).alloc _
    have b2 := Blk3.alloc w3 (.bool z1.neg) (.string z1.num) (.string z1.den) 30
    replace hch := hch.then c2
    replace b1 := b1.keep0 c2
    clear c1 c2 hx
    go_wp2_with fail
    refine (awake7_any _).mono ?_
    rintro e w4 ⟨rfl, c1⟩
    replace hch := hch.then c1
    replace b1 := b1.keep0 c1
    replace b2 := b2.keep0 c1
    clear c1
    have b1c0 := b1.c0
    have b1c1 := b1.c1
    have b1c2 := b1.c2
    have b1f0 := b1.f0
    have b1f1 := b1.f1
    have b1f2 := b1.f2
    have b1l := b1.lt
    have b2c0 := b2.c0
    have b2c1 := b2.c1
    have b2c2 := b2.c2
    have b2f0 := b2.f0
    have b2f1 := b2.f1
    have b2f2 := b2.f2
    have b2l := b2.lt
    go_wp2_with fail
    go_ret
    exact ⟨by simp, hch⟩

set_option maxRecDepth 20000 in
set_option maxHeartbeats 2000000 in
theorem lqconvert_any (l : List Qt) (x : Q3) (f t : ByteArray) (d : Int) (n : Nat) (A : Option Addr) (cap : Nat) (w : World) (hn : l.length = n) (hcp : n ≤ cap) (hcp2 : cap ≤ 9223372036854775807) (hx : SQt w A l) :
    Calls Try.prog 6 #[.slice A n cap, .agg #[.bool x.neg, .string x.num, .string x.den], .string f, .string t, .int .i64 d] w fun e w' => e = .returned (.bool true) ∧ Chg [] w w' := by
  have b0 := Blk3.alloc w (.bool x.neg) (.string x.num) (.string x.den) 30
  have hch : Chg [] w (w.alloc (.cells #[.bool x.neg, .string x.num, .string x.den] 30)) := (Chg.refl _ _).alloc _
  replace hx := hx.keep0 hch
  have HN := Lib.hid hn
  clear hn
  obtain ⟨b, HB⟩ := name_it (decide (n ≤ 12) && fewK l)
  have hfw := fun w h => kfew_any l n A cap w HN.out h
  rw [HB.out] at hfw
  have HFW := Lib.hid hfw
  obtain ⟨b2, HB2⟩ := name_it (shortQ x)
  have hfx := fun w => Few_any x w
  rw [HB2.out] at hfx
  have HFX := Lib.hid hfx
  clear hfw hfx
  cases b with
  | false =>
    clear HB
    go_enter Try.func6, Try.ntmps6
    go_wp2_with (first
      | (go_at_call 10; (with_reducible refine (HFW.out _ hx).mono ?_); rintro e w1 ⟨rfl, c1⟩; replace hch := hch.then c1; clear c1)
      | (go_at_call 11; (with_reducible refine (awake7_any _).mono ?_); rintro e w2 ⟨rfl, c2⟩; replace hch := hch.then c2; clear c2)
      | fail)
    go_ret
    exact ⟨rfl, hch⟩
  | true =>
    cases b2 with
    | false =>
      clear HB HB2
      go_enter Try.func6, Try.ntmps6
      go_wp2_with (first
        | (go_at_call 10; (with_reducible refine (HFW.out _ hx).mono ?_); rintro e w1 ⟨rfl, c1⟩; replace hch := hch.then c1; replace b0 := b0.keep0 c1; clear c1; have b0c0 := b0.c0; have b0c1 := b0.c1; have b0c2 := b0.c2)
        | (go_at_call 17; (with_reducible refine (HFX.out _).mono ?_); rintro e w5 ⟨rfl, c1⟩; replace hch := hch.then c1; clear c1)
        | (go_at_call 11; (with_reducible refine (awake7_any _).mono ?_); rintro e w2 ⟨rfl, c2⟩; replace hch := hch.then c2; clear c2)
        | fail)
      go_ret
      exact ⟨rfl, hch⟩
    | true =>
      have hb := HB.out
      simp only [Bool.and_eq_true, decide_eq_true_eq] at hb
      have HF := Lib.hid (fewK_fits hb.2)
      have hm : n ≤ 1000000000 := by omega
      have hxn : Num x (ratOf x) 24 := by
        have := HB2.out
        unfold shortQ at this
        simp only [Bool.and_eq_true, decide_eq_true_eq] at this
        exact ⟨rfl, ⟨this.1, this.2⟩, by omega⟩
      have HR1 := Lib.hid (fun w h => qconvert_any l x _ 24 f t d n 24 A cap w HN.out hm hcp hcp2 HF.out hxn (by omega) h)
      have HR2 := Lib.hid (fun w h => econvert_any l x _ 24 f t d n 24 A cap w HN.out hm HF.out hxn (by omega) h)
      obtain ⟨er, HER⟩ := name_it (cvE l f t d)
      obtain ⟨vr, HVR⟩ := name_it (cvV (ratOf x) l f t d)
      rw [HER.out, HVR.out] at HR1 HR2
      clear hb HB HB2 HER HVR hcp hcp2 hxn
      go_enter Try.func6, Try.ntmps6
      go_wp2_with fail
      refine (HFW.out _ hx).mono ?_
      rintro e w1 ⟨rfl, c1⟩
      replace hch := hch.then c1
      replace hx := hx.keep0 c1
      replace b0 := b0.keep0 c1
      clear c1
      have b0c0 := b0.c0
      have b0c1 := b0.c1
      have b0c2 := b0.c2
      have b0f0 := b0.f0
      have b0f1 := b0.f1
      have b0f2 := b0.f2
      have b0l := b0.lt
      go_wp2_with fail
      refine (HFX.out _).mono ?_
      rintro e w2 ⟨rfl, c1⟩
      clear b0c0 b0c1 b0c2 b0f0 b0f1 b0f2 b0l
      replace hch := hch.then c1
      replace hx := hx.keep0 c1
      replace b0 := b0.keep0 c1
      clear c1
      have b0c0 := b0.c0
      have b0c1 := b0.c1
      have b0c2 := b0.c2
      have b0f0 := b0.f0
      have b0f1 := b0.f1
      have b0f2 := b0.f2
      have b0l := b0.lt
      go_wp2_with fail
      refine (HR1.out _ hx).mono ?_
      rintro e w3 ⟨z1, rfl, h1, c1⟩
      clear b0c0 b0c1 b0c2 b0f0 b0f1 b0f2 b0l
      have H1 := Lib.hid h1
      replace hch := hch.then c1
      replace hx := hx.keep0 c1
      replace b0 := b0.keep0 c1
      have c2 : Chg [] w3 (w3.alloc (.cells #[.bool z1.neg, .string z1.num, .string z1.den] 30)) := (Chg.refl _ _).alloc _
      have b1 := Blk3.alloc w3 (.bool z1.neg) (.string z1.num) (.string z1.den) 30
      replace hch := hch.then c2
      replace hx := hx.keep0 c2
      replace b0 := b0.keep0 c2
      clear c1 c2 h1
      have b0c0 := b0.c0
      have b0c1 := b0.c1
      have b0c2 := b0.c2
      have b0f0 := b0.f0
      have b0f1 := b0.f1
      have b0f2 := b0.f2
      have b0l := b0.lt
      go_wp2_with fail
      refine (HR2.out _ hx).mono ?_
      rintro e w4 ⟨z2, rfl, h2, c1⟩
      clear b0c0 b0c1 b0c2 b0f0 b0f1 b0f2 b0l
      obtain rfl : z2 = z1 := h2.unique H1.out
      replace hch := hch.then c1
      replace b1 := b1.keep0 c1
      have c2 : Chg [] w4 (w4.alloc (.cells #[.bool z2.neg, .string z2.num, .string z2.den] 30)) := (Chg.refl _ _).alloc _
      have b2 := Blk3.alloc w4 (.bool z2.neg) (.string z2.num) (.string z2.den) 30
      replace hch := hch.then c2
      replace b1 := b1.keep0 c2
      clear c1 c2 hx h2 b0
      go_wp2_with fail
      refine (awake7_any _).mono ?_
      rintro e w5 ⟨rfl, c1⟩
      replace hch := hch.then c1
      replace b1 := b1.keep0 c1
      replace b2 := b2.keep0 c1
      clear c1
      have b1c0 := b1.c0
      have b1c1 := b1.c1
      have b1c2 := b1.c2
      have b1f0 := b1.f0
      have b1f1 := b1.f1
      have b1f2 := b1.f2
      have b1l := b1.lt
      have b2c0 := b2.c0
      have b2c1 := b2.c1
      have b2c2 := b2.c2
      have b2f0 := b2.f0
      have b2f1 := b2.f1
      have b2f2 := b2.f2
      have b2l := b2.lt
      go_wp2_with fail
      go_ret
      exact ⟨by simp, hch⟩
end Go.Proofs.Ytkdcffcgedhllaa
