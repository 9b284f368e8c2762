/-
  Interest: few, awake; the laws InterestCheck, InterestRate.
-/
import Derived.Test.YtcfejphpflafiaaIX7
namespace Go.Proofs.Ytcfejphpflafiaa
open Go.RowKit Nd

/-- Whether raw steps are short enough for a law. -/
def fewS (l : List St) : Bool := l.all fun s => shortQ s.rt
theorem fewS_fits {l : List St} (h : fewS l = true) : Fits l 24 := by
  refine ⟨by omega, by omega, fun s hs => ?_⟩
  have := List.all_eq_true.1 h s hs
  unfold shortQ at this
  simp only [Bool.and_eq_true, decide_eq_true_eq] at this
  exact ⟨this.1, this.2⟩
theorem take_snocS (xs : List St) (k : Nat) (h : k < xs.length) : xs.take (k + 1) = xs.take k ++ [xs.getD k s0] := by
  rw [List.take_add_one, List.getD_eq_getElem?_getD, List.getElem?_eq_getElem h]; rfl

set_option maxRecDepth 20000 in
set_option maxHeartbeats 1000000 in
theorem few_any (l : List St) (n : Nat) (A : Option Addr) (cap : Nat) (w : World) (hn : l.length = n) (hx : Sds w A l) :
    Calls Try.prog 12 #[.slice A n cap] w fun e w' => e = .returned (.bool (decide (n ≤ 10) && fewS l)) ∧ Chg [] w w' := by
  have hch : Chg [] w w := Chg.refl _ _
  obtain ⟨r, HR⟩ := name_it (decide (n ≤ 10) && fewS l)
  rw [HR.out]
  have HN := Lib.hid hn
  clear hn
  by_cases hlen : n ≤ 10
  · have hR2 : Hid (r = fewS l) := Lib.hid (by rw [← HR.out]; simp [hlen])
    have d1 : decide ((10 : Int) < (n : Int)) = false := decide_eq_false (by omega)
    clear HR
    go_enter Try.func12, Try.ntmps12
    go_wp2_with fail
    clear d1
    go_loopw [10] (fun iv wr => ∃ k : Nat, k ≤ n ∧ iv = .int .i64 k ∧ fewS (l.take k) = true ∧ Sds wr A l ∧ Chg [] w wr) (fun iv _ => n - (intOf iv).toNat)
    case atStart => exact ⟨0, Nat.zero_le _, rfl, by simp [fewS], hx, hch⟩
    case round =>
      clear hx hch
      obtain ⟨k, hk, rfl, hf, hx, hch⟩ := hrel
      have HF := Lib.hid hf
      clear hf
      by_cases hlt : k < n
      · obtain ⟨g, o, rfl, hgl⟩ := hx.form (by rw [HN.out]; omega)
        have hc := hx.at_ (j := k) (by rw [HN.out]; exact hlt)
        have hmem := mem_getS (l := l) (j := k) (by rw [HN.out]; exact hlt)
        have hst : fewS (l.take (k + 1)) = (fewS (l.take k) && shortQ (l.getD k s0).rt) := by
          rw [take_snocS l k (by rw [HN.out]; exact hlt)]; simp [fewS]
        obtain ⟨s, HS⟩ := name_it (l.getD k s0)
        rw [HS.out] at hc hmem hst
        have hca := hc.a
        have hcb := hc.b
        have hcc := hc.c
        have hcd := hc.d
        have HM := Lib.hid hmem
        have HST := Lib.hid hst
        have c4 : Chg [] wr (wr.alloc (.cells #[.int .i64 s.fr, .bool s.rt.neg, .string s.rt.num, .string s.rt.den] 49)) := (Chg.refl _ _).alloc _
        have b4 := Blk4.alloc wr (.int .i64 s.fr) (.bool s.rt.neg) (.string s.rt.num) (.string s.rt.den) 49
        have HX1 := Lib.hid (hx.keep0 c4)
        replace hch := hch.then c4
        clear hx hc c4 hmem hst
        have k1 := b4.c1
        have k2 := b4.c2
        have k3 := b4.c3
        go_wp2_with fail
        refine (Few_any s.rt _).mono ?_
        rintro e w1 ⟨rfl, c1⟩
        have hx1 := HX1.out.keep0 c1
        replace hch := hch.then c1
        clear c1 k1 k2 k3 hca hcb hcc hcd
        cases hsh : shortQ s.rt
        · have hr : r = false := by
            rw [hR2.out]; unfold fewS; rw [List.all_eq_false]
            exact ⟨s, HM.out, by simp [hsh]⟩
          subst hr
          go_wp2_with fail
          go_ret
          exact ⟨rfl, hch⟩
        · go_wp2_with fail
          go_roundw
          case rel => exact ⟨k + 1, by omega, by go_num, by rw [HST.out, HF.out, hsh]; rfl, hx1, hch⟩
          case measure => simp [intOf]; omega
      · have hr : r = true := by
          rw [hR2.out]; have := HF.out; rwa [List.take_of_length_le (by rw [HN.out]; omega)] at this
        subst hr
        go_wp2_with fail
        go_ret
        exact ⟨rfl, hch⟩
  · have hr : r = false := by rw [← HR.out]; simp [hlen]
    subst hr
    have d1 : decide ((10 : Int) < (n : Int)) = true := decide_eq_true (by omega)
    clear HR hlen
    go_enter Try.func12, Try.ntmps12
    go_wp2_with fail
    go_ret
    exact ⟨rfl, hch⟩

theorem sds_one (w : World) (s : St) : Sds (w.alloc (.cells #[.int .i64 s.fr, .bool s.rt.neg, .string s.rt.num, .string s.rt.den] 49)) (some ⟨w.heap.size, 0, none⟩) [s] := by
  have b := Blk4.alloc w (.int .i64 s.fr) (.bool s.rt.neg) (.string s.rt.num) (.string s.rt.den) 49
  intro _
  refine ⟨_, 0, rfl, b.lt, fun j hj => ?_⟩
  obtain rfl : j = 0 := by simp at hj; omega
  exact ⟨b.c0, b.c1, b.c2, b.c3, b.lt⟩
/-- The steps of the chapter's example. -/
def exL : Stp := [(0, sq false 1 10)]
theorem ex1 : simE 36500 exL 10 40 365 = 0 ∧ simV 36500 exL 10 40 365 = 300 := by decide +kernel
theorem ex2 : termsE 36500 exL 10 40 365 15 = 0 ∧ cmpV 36500 exL 10 40 365 15 = sq false 21945 73 := by decide +kernel

set_option maxRecDepth 20000 in
set_option maxHeartbeats 4000000 in
theorem awake_any (w : World) : Calls Try.prog 13 #[] w fun e w' => e = .returned (.bool true) ∧ Chg [] w w' := by
  have hch : Chg [] w w := Chg.refl _ _
  go_enter Try.func13, Try.ntmps13
  go_wp2_with fail
  refine (ratio_any 1 10 _ (by omega) (by omega) (by omega) (by omega)).mono ?_
  rintro e w1 ⟨z1, rfl, h1, c1⟩
  have H1 : Hid (Val z1 (sq false 1 10) 8) := Lib.hid h1
  replace hch := hch.then c1
  have hx := sds_one w1 ⟨0, z1⟩
  have c2 : Chg [] w1 (w1.alloc (.cells #[.int .i64 0, .bool z1.neg, .string z1.num, .string z1.den] 49)) := (Chg.refl _ _).alloc _
  replace hch := hch.then c2
  have HL : Hid (slQ [(⟨0, z1⟩ : St)] = exL) := Lib.hid (by show [((0 : Int), ratOf z1)] = _; rw [h1.num.rat]; rfl)
  have HFT : Hid (Fits [(⟨0, z1⟩ : St)] 8) := Lib.hid ⟨by omega, by omega, fun s hs => by rw [List.mem_singleton.1 hs]; exact h1.num.fit⟩
  clear c1 c2 h1
  go_wp2_with fail
  refine (whole_any 36500 _ (by omega) (by omega)).mono ?_
  rintro e w2 ⟨z2, rfl, h2, c1⟩
  have H2 : Hid (Val z2 36500 8) := Lib.hid h2
  replace hch := hch.then c1
  replace hx := hx.keep0 c1
  have c2 : Chg [] w2 (w2.alloc (.cells #[.bool z2.neg, .string z2.num, .string z2.den] 29)) := (Chg.refl _ _).alloc _
  have b2 := Blk3.alloc w2 (.bool z2.neg) (.string z2.num) (.string z2.den) 29
  replace hch := hch.then c2
  replace hx := hx.keep0 c2
  clear c1 c2 h2
  have b2c0 := b2.c0
  have b2c1 := b2.c1
  have b2c2 := b2.c2
  have b2f0 := b2.f0
  have b2f1 := b2.f1
  have b2f2 := b2.f2
  have b2l := b2.lt
  go_wp2_with fail
  refine (simple_any z2 36500 8 [⟨0, z1⟩] 10 40 365 1 8 _ 1 _ H2.out.num (by omega) rfl (by omega) HFT.out hx).mono ?_
  rintro e w3 ⟨z3, rfl, h3, c1⟩
  rw [HL.out, ex1.2] at h3
  rw [HL.out, ex1.1]
  have H3 := Lib.hid h3
  clear b2c0 b2c1 b2c2 b2f0 b2f1 b2f2 b2l
  replace hch := hch.then c1
  replace hx := hx.keep0 c1
  replace b2 := b2.keep0 c1
  have c2 : Chg [] w3 (w3.alloc (.cells #[.bool z3.neg, .string z3.num, .string z3.den] 29)) := (Chg.refl _ _).alloc _
  have b3 := Blk3.alloc w3 (.bool z3.neg) (.string z3.num) (.string z3.den) 29
  replace hch := hch.then c2
  replace hx := hx.keep0 c2
  replace b2 := b2.keep0 c2
  clear c1 c2 h3
  have b2c0 := b2.c0
  have b2c1 := b2.c1
  have b2c2 := b2.c2
  have b2f0 := b2.f0
  have b2f1 := b2.f1
  have b2f2 := b2.f2
  have b2l := b2.lt
  go_wp2_with fail
  refine (compound_any z2 36500 8 [⟨0, z1⟩] 10 40 365 15 1 8 _ 1 _ H2.out.num (by omega) rfl (by omega) HFT.out (by omega) hx).mono ?_
  rintro e w4 ⟨z4, rfl, h4, c1⟩
  rw [HL.out, ex2.2] at h4
  rw [HL.out, ex2.1]
  have H4 := Lib.hid h4
  clear b2c0 b2c1 b2c2 b2f0 b2f1 b2f2 b2l
  replace hch := hch.then c1
  replace b3 := b3.keep0 c1
  have c2 : Chg [] w4 (w4.alloc (.cells #[.bool z4.neg, .string z4.num, .string z4.den] 29)) := (Chg.refl _ _).alloc _
  have b4 := Blk3.alloc w4 (.bool z4.neg) (.string z4.num) (.string z4.den) 29
  replace hch := hch.then c2
  replace b3 := b3.keep0 c2
  clear c1 c2 h4 hx b2
  go_wp2_with fail
  obtain ⟨w5, HW5⟩ := name_it (w4.alloc (.cells #[.bool z4.neg, .string z4.num, .string z4.den] 29))
  rw [HW5.out] at b3 b4 hch ⊢
  obtain ⟨g3, G3⟩ := name_it w3.heap.size
  obtain ⟨g4, G4⟩ := name_it w4.heap.size
  rw [G3.out] at b3 ⊢
  rw [G4.out] at b4 ⊢
  have c8 : Chg [] w5 w5.drew := (Chg.refl _ _).drew
  replace b3 := b3.keep c8 (by simp)
  replace b4 := b4.keep c8 (by simp)
  replace hch := hch.then c8
  clear c8
  go_region_held3 (fun w' => w'.cell? ⟨g3, 0, none⟩ = some (.bool z3.neg) ∧ w'.cell? ⟨g3, 1, none⟩ = some (.string z3.num) ∧ w'.cell? ⟨g3, 2, none⟩ = some (.string z3.den) ∧ w'.cell? ⟨g4, 0, none⟩ = some (.bool z4.neg) ∧ w'.cell? ⟨g4, 1, none⟩ = some (.string z4.num) ∧ w'.cell? ⟨g4, 2, none⟩ = some (.string z4.den)) (first | exact ⟨b3.c0, b3.c1, b3.c2, b4.c0, b4.c1, b4.c2⟩) (first
    | (go_at_call 32
       (with_reducible refine (whole_any 300 _ (by omega) (by omega)).mono ?_)
       rintro e w6 ⟨z9, rfl, hz9, c10⟩
       have e9 : z9 = z3 := hz9.unique H3.out
       rw [e9]
       clear e9 hz9
       replace b3 := b3.keep0 c10
       replace b4 := b4.keep0 c10
       replace hch := hch.then c10
       clear c10)
    | (go_at_call 31
       (with_reducible refine (ratio_any 21945 73 _ (by omega) (by omega) (by omega) (by omega)).mono ?_)
       rintro e w6 ⟨z8, rfl, hz8, c10⟩
       have e8 : z8 = z4 := hz8.unique H4.out
       rw [e8]
       clear e8 hz8
       replace b3 := b3.keep0 c10
       replace b4 := b4.keep0 c10
       replace hch := hch.then c10
       clear c10)
    | fail)
  all_goals
    go_wp2_with fail
    go_ret
    exact ⟨rfl, hch⟩

set_option maxRecDepth 20000 in
set_option maxHeartbeats 2000000 in
theorem lcheck_any (l : List St) (n : Nat) (A : Option Addr) (cap : Nat) (w : World) (hn : l.length = n) (hx : Sds w A l) :
    Calls Try.prog 3 #[.slice A n cap] w fun e w' => e = .returned (.bool true) ∧ Chg [] w w' := by
  have hch : Chg [] w w := Chg.refl _ _
  have HN := Lib.hid hn
  clear hn
  obtain ⟨b, HB⟩ := name_it (decide (n ≤ 10) && fewS l)
  have hfw := few_any l n A cap w HN.out hx
  rw [HB.out] at hfw
  have HFW := Lib.hid hfw
  clear hfw
  cases b with
  | false =>
    clear HB
    go_enter Try.func3, Try.ntmps3
    go_wp2_with (first
      | (go_at_call 12; (with_reducible refine HFW.out.mono ?_); rintro e w1 ⟨rfl, c1⟩; replace hch := hch.then c1; clear c1)
      | (go_at_call 13; (with_reducible refine (awake_any _).mono ?_); rintro e w2 ⟨rfl, c2⟩; replace hch := hch.then c2; clear c2)
      | fail)
    go_ret
    exact ⟨rfl, hch⟩
  | true =>
    have hb := HB.out
    simp only [Bool.and_eq_true, decide_eq_true_eq] at hb
    have HF := Lib.hid (fewS_fits hb.2)
    have hm : n ≤ 1000000000 := by omega
    clear hb HB
    go_enter Try.func3, Try.ntmps3
    go_wp2_with (first
      | (go_at_call 12; (with_reducible refine HFW.out.mono ?_); rintro e w1 ⟨rfl, c1⟩; replace hch := hch.then c1; have hx1 := hx.keep0 c1; clear c1)
      | (go_at_call 13; (with_reducible refine (awake_any _).mono ?_); rintro e w2 ⟨rfl, c2⟩; replace hch := hch.then c2; have hx2 := hx1.keep0 c2; clear c2)
      | (go_at_call 14; (with_reducible refine (check_any l n 24 A cap _ HN.out hm HF.out hx2).mono ?_); rintro e w3 ⟨rfl, c3⟩; replace hch := hch.then c3; have hx3 := hx2.keep0 c3; clear c3)
      | (go_at_call 15; (with_reducible refine (rcheck_any l n 24 A cap _ HN.out hm HF.out hx3).mono ?_); rintro e w4 ⟨rfl, c4⟩; replace hch := hch.then c4; clear c4)
      | fail)
    go_ret
    exact ⟨by simp, hch⟩

set_option maxRecDepth 20000 in
set_option maxHeartbeats 2000000 in
theorem lrate_any (l : List St) (d : Int) (n : Nat) (A : Option Addr) (cap : Nat) (w : World) (hn : l.length = n) (hx : Sds w A l) :
    Calls Try.prog 4 #[.slice A n cap, .int .i64 d] w fun e w' => e = .returned (.bool true) ∧ Chg [] w w' := by
  have hch : Chg [] w w := Chg.refl _ _
  have HN := Lib.hid hn
  clear hn
  obtain ⟨b, HB⟩ := name_it (decide (n ≤ 10) && fewS l)
  have hfw := few_any l n A cap w HN.out hx
  rw [HB.out] at hfw
  have HFW := Lib.hid hfw
  clear hfw
  cases b with
  | false =>
    clear HB
    go_enter Try.func4, Try.ntmps4
    go_wp2_with (first
      | (go_at_call 12; (with_reducible refine HFW.out.mono ?_); rintro e w1 ⟨rfl, c1⟩; replace hch := hch.then c1; clear c1)
      | (go_at_call 13; (with_reducible refine (awake_any _).mono ?_); rintro e w2 ⟨rfl, c2⟩; replace hch := hch.then c2; clear c2)
      | fail)
    go_ret
    exact ⟨rfl, hch⟩
  | true =>
    have hb := HB.out
    simp only [Bool.and_eq_true, decide_eq_true_eq] at hb
    have HF := Lib.hid (fewS_fits hb.2)
    have hm : n ≤ 1000000000 := by omega
    have HR1 := Lib.hid (fun w h => rate_any l d n 24 A cap w HN.out hm HF.out h)
    have HR2 := Lib.hid (fun w h => irate_any l d n 24 A cap w HN.out hm HF.out h)
    obtain ⟨er, HER⟩ := name_it (rateE (slQ l) d)
    obtain ⟨vr, HVR⟩ := name_it (rateV (slQ l) d)
    rw [HER.out, HVR.out] at HR1 HR2
    clear hb HB HER HVR
    go_enter Try.func4, Try.ntmps4
    go_wp2_with fail
    refine HFW.out.mono ?_
    rintro e w1 ⟨rfl, c1⟩
    replace hch := hch.then c1
    replace hx := hx.keep0 c1
    clear c1
    go_wp2_with fail
    refine (HR1.out _ hx).mono ?_
    rintro e w2 ⟨z1, rfl, h1, c1⟩
    have H1 := Lib.hid h1
    replace hch := hch.then c1
    replace hx := hx.keep0 c1
    have c2 : Chg [] w2 (w2.alloc (.cells #[.bool z1.neg, .string z1.num, .string z1.den] 29)) := (Chg.refl _ _).alloc _
    have b1 := Blk3.alloc w2 (.bool z1.neg) (.string z1.num) (.string z1.den) 29
    replace hch := hch.then c2
    replace hx := hx.keep0 c2
    clear c1 c2 h1
    go_wp2_with fail
    refine (HR2.out _ hx).mono ?_
    rintro e w3 ⟨z2, rfl, h2, c1⟩
    obtain rfl : z2 = z1 := h2.unique H1.out
    replace hch := hch.then c1
    replace b1 := b1.keep0 c1
    have c2 : Chg [] w3 (w3.alloc (.cells #[.bool z2.neg, .string z2.num, .string z2.den] 29)) := (Chg.refl _ _).alloc _
    have b2 := Blk3.alloc w3 (.bool z2.neg) (.string z2.num) (.string z2.den) 29
    replace hch := hch.then c2
    replace b1 := b1.keep0 c2
    clear c1 c2 h2 hx
    go_wp2_with fail
    refine (awake_any _).mono ?_
    rintro e w4 ⟨rfl, c1⟩
    replace hch := hch.then c1
    replace b1 := b1.keep0 c1
    replace b2 := b2.keep0 c1
    clear c1
    have b1c0 := b1.c0
    have b1c1 := b1.c1
    have b1c2 := b1.c2
    have b1f0 := b1.f0
    have b1f1 := b1.f1
    have b1f2 := b1.f2
    have b1l := b1.lt
    have b2c0 := b2.c0
    have b2c1 := b2.c1
    have b2c2 := b2.c2
    have b2f0 := b2.f0
    have b2f1 := b2.f1
    have b2f2 := b2.f2
    have b2l := b2.lt
    go_wp2_with fail
    go_ret
    exact ⟨by simp, hch⟩
end Go.Proofs.Ytcfejphpflafiaa
