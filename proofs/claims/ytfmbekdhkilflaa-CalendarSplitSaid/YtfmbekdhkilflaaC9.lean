/-
  The laws CalendarWeekday, CalendarBusiness, CalendarNext, CalendarAdd, CalendarCount.
-/
import Derived.Test.YtfmbekdhkilflaaC8
namespace Go.Proofs.Ytfmbekdhkilflaa
open Go.RowKit Go.Sort

set_option maxRecDepth 20000 in
set_option maxHeartbeats 1000000 in
theorem lweekday_any (d : Int) (w : World) (hd : I64 d) :
    Calls Try.prog 3 #[.int .i64 d] w fun e w' => e = .returned (.bool true) ∧ Chg [] w w' := by
  have HD := Lib.hid hd
  have hch : Chg [] w w := Chg.refl _ _
  obtain ⟨h1, h2⟩ := hd
  obtain ⟨r, HR⟩ := name_it (d % 7)
  have r1 : 0 ≤ r := by rw [← HR.out]; omega
  have r2 : r < 7 := by rw [← HR.out]; omega
  by_cases hbig : 4611686018427387904 < d
  · have d1 : decide (4611686018427387904 < d) = true := decide_eq_true hbig
    clear hbig
    go_enter Try.func3, Try.ntmps3
    go_wp2_with (first
      | (go_at_call 12; refine (weekday_any d _ HD.out).mono ?_; rintro e w' ⟨rfl, hw⟩; obtain rfl := hw.symm; clear hw; rw [HR.out])
      | (go_at_call 14; refine (rweekday_any d _ HD.out).mono ?_; rintro e w' ⟨rfl, hw⟩; obtain rfl := hw.symm; clear hw; rw [HR.out])
      | (go_at_call 13; refine (awake_any _).mono ?_; rintro e w1 ⟨rfl, c1⟩))
    go_ret
    exact ⟨rfl, hch.then c1⟩
  · have d1 : decide (4611686018427387904 < d) = false := decide_eq_false hbig
    have HW7 : Hid (I64 (d + 7) ∧ (d + 7) % 7 = r) := Lib.hid ⟨⟨by omega, by omega⟩, by rw [← HR.out]; omega⟩
    have hb2 : d + 7 ≤ 9223372036854775807 := by omega
    clear hbig
    go_enter Try.func3, Try.ntmps3
    go_wp2_with (first
      | (go_at_call 12; (with_reducible refine (weekday_any d _ HD.out).mono ?_); rintro e w' ⟨rfl, hw⟩; obtain rfl := hw.symm; clear hw; rw [HR.out])
      | (go_at_call 12; (with_reducible refine (weekday_any (d + 7) _ HW7.out.1).mono ?_); rintro e w' ⟨rfl, hw⟩; obtain rfl := hw.symm; clear hw; rw [HW7.out.2])
      | (go_at_call 14; refine (rweekday_any d _ HD.out).mono ?_; rintro e w' ⟨rfl, hw⟩; obtain rfl := hw.symm; clear hw; rw [HR.out])
      | (go_at_call 13; refine (awake_any _).mono ?_; rintro e w1 ⟨rfl, c1⟩))
    go_ret
    exact ⟨rfl, hch.then c1⟩

set_option maxRecDepth 20000 in
set_option maxHeartbeats 1000000 in
theorem lbusiness_any (d : Int) (zs : List Int) (l : Nat) (A : Option Addr) (cap : Nat) (w : World) (hd : I64 d) (hl : zs.length = l) (hl2 : l ≤ 9223372036854775807) (hx : RdZ w A zs) :
    Calls Try.prog 4 #[.int .i64 d, .slice A l cap] w fun e w' => e = .returned (.bool true) ∧ Chg [] w w' := by
  have HC := Lib.hid (fun u (h : RdZ u A zs) => isBusiness_any zs d l A cap u hd hl hl2 h)
  have HRC := Lib.hid (fun u b (h : RdZ u A zs) (hb : busD zs d = b) => rIsBusiness_any zs d l A cap u b hd hl hl2 h hb)
  have HX := Lib.hid hx
  obtain ⟨b, HB⟩ := name_it (busD zs d)
  rw [HB.out] at HC
  have hch : Chg [] w w := Chg.refl _ _
  clear hl hd hx
  by_cases hlong : 200 < l
  · have d1 : decide ((200 : Int) < (l : Int)) = true := decide_eq_true (by omega)
    clear hlong
    go_enter Try.func4, Try.ntmps4
    go_wp2_with (go_at_call 13; refine (awake_any _).mono ?_; rintro e w1 ⟨rfl, c1⟩)
    go_ret
    exact ⟨rfl, hch.then c1⟩
  · have d1 : decide ((200 : Int) < (l : Int)) = false := decide_eq_false (by omega)
    clear hlong
    go_enter Try.func4, Try.ntmps4
    go_wp2_with (first
      | (go_at_call 13; refine (awake_any _).mono ?_; rintro e w1 ⟨rfl, c1⟩)
      | (go_at_call 15; refine (HC.out _ (HX.out.keep0 c1)).mono ?_; rintro e w' ⟨rfl, hw⟩; obtain rfl := hw.symm; clear hw)
      | (go_at_call 16; refine (HRC.out _ b (HX.out.keep0 c1) HB.out).mono ?_; rintro e w2 ⟨rfl, c2⟩))
    go_ret
    exact ⟨by simp, (hch.then c1).then c2⟩

set_option maxRecDepth 20000 in
set_option maxHeartbeats 1000000 in
theorem lnext_any (d : Int) (zs : List Int) (l : Nat) (A : Option Addr) (cap : Nat) (w : World) (hd : I64 d) (hl : zs.length = l) (hl2 : l ≤ 9223372036854775807) (hz : ∀ x, x ∈ zs → I64 x) (hx : RdZ w A zs) :
    Calls Try.prog 5 #[.int .i64 d, .slice A l cap] w fun e w' => e = .returned (.bool true) ∧ Chg [] w w' := by
  have HC := Lib.hid (fun u v (hv : I64 v) (h : RdZ u A zs) => next_any zs v l A cap u hv hl hl2 hz h)
  have HRC := Lib.hid (fun u v (h : RdZ u A zs) => rnext_any zs v l A cap u hl hl2 h)
  have HX := Lib.hid hx
  have HD := Lib.hid hd
  have hch : Chg [] w w := Chg.refl _ _
  clear hl hd hx hz
  by_cases hlong : 200 < l
  · have d1 : decide ((200 : Int) < (l : Int)) = true := decide_eq_true (by omega)
    clear hlong
    go_enter Try.func5, Try.ntmps5
    go_wp2_with (go_at_call 13; refine (awake_any _).mono ?_; rintro e w1 ⟨rfl, c1⟩)
    go_ret
    exact ⟨rfl, hch.then c1⟩
  · have d1 : decide ((200 : Int) < (l : Int)) = false := decide_eq_false (by omega)
    clear hlong
    go_enter Try.func5, Try.ntmps5
    go_wp2_with (first
      | (go_at_call 17; refine (near_any d _ HD.out).mono ?_; rintro e w' ⟨v, rfl, hv, rfl⟩; have HV := Lib.hid hv; clear hv)
      | (go_at_call 18; refine (HC.out _ v HV.out HX.out).mono ?_; rintro e w1 ⟨a, c, rfl, hr, c1⟩; have HR := Lib.hid hr; clear hr; unfold two)
      | (go_at_call 19; refine (HRC.out _ v (HX.out.keep0 c1)).mono ?_; rintro e w2 ⟨a2, cc2, rfl, hr, c2⟩; obtain ⟨rfl, rfl⟩ := two_inj (HR.out.unique hr); clear hr; unfold two)
      | (go_at_call 13; refine (awake_any _).mono ?_; rintro e w3 ⟨rfl, c3⟩))
    go_ret
    exact ⟨by simp, ((hch.then c1).then c2).then c3⟩

set_option maxRecDepth 20000 in
set_option maxHeartbeats 1000000 in
theorem ladd_any (d n : Int) (zs : List Int) (l : Nat) (A : Option Addr) (cap : Nat) (w : World) (hd : I64 d) (hn : I64 n) (hl : zs.length = l) (hl2 : l ≤ 9223372036854775807) (hz : ∀ x, x ∈ zs → I64 x) (hx : RdZ w A zs) :
    Calls Try.prog 6 #[.int .i64 d, .int .i64 n, .slice A l cap] w fun e w' => e = .returned (.bool true) ∧ Chg [] w w' := by
  have HC := Lib.hid (fun u v (hv : I64 v) (h : RdZ u A zs) => add_any zs v n l A cap u hv hn hl hl2 hz h)
  have HRC := Lib.hid (fun u v (h : RdZ u A zs) => radd_any zs v n l A cap u hn hl hl2 h)
  have HX := Lib.hid hx
  have HD := Lib.hid hd
  have hch : Chg [] w w := Chg.refl _ _
  obtain ⟨n1, n2⟩ := hn
  clear hl hd hx hz
  by_cases hlong : 200 < l
  · have d1 : decide ((200 : Int) < (l : Int)) = true := decide_eq_true (by omega)
    clear hlong
    go_enter Try.func6, Try.ntmps6
    go_wp2_with (first
      | (go_at_call 17; refine (near_any d _ HD.out).mono ?_; rintro e w' ⟨v, rfl, hv, rfl⟩; have HV := Lib.hid hv; clear hv)
      | (go_at_call 13; refine (awake_any _).mono ?_; rintro e w1 ⟨rfl, c1⟩))
    go_ret
    exact ⟨rfl, hch.then c1⟩
  · have d1 : decide ((200 : Int) < (l : Int)) = false := decide_eq_false (by omega)
    clear hlong
    by_cases hskip : 2000 < n ∧ n ≤ 1048576
    · have d2 : decide (2000 < n) = true := decide_eq_true hskip.1
      have d3 : decide (n ≤ 1048576) = true := decide_eq_true hskip.2
      clear hskip
      go_enter Try.func6, Try.ntmps6
      go_wp2_with (first
        | (go_at_call 17; refine (near_any d _ HD.out).mono ?_; rintro e w' ⟨v, rfl, hv, rfl⟩; have HV := Lib.hid hv; clear hv)
        | (go_at_call 13; refine (awake_any _).mono ?_; rintro e w1 ⟨rfl, c1⟩))
      go_ret
      exact ⟨rfl, hch.then c1⟩
    · have hcase : (decide (2000 < n) = false) ∨ (decide (2000 < n) = true ∧ decide (n ≤ 1048576) = false) := by
        by_cases h9 : 2000 < n
        · exact .inr ⟨decide_eq_true h9, decide_eq_false (fun h => hskip ⟨h9, h⟩)⟩
        · exact .inl (decide_eq_false h9)
      clear hskip
      rcases hcase with d2 | ⟨d2, d3⟩
      all_goals
        go_enter Try.func6, Try.ntmps6
        go_wp2_with (first
          | (go_at_call 17; refine (near_any d _ HD.out).mono ?_; rintro e w' ⟨v, rfl, hv, rfl⟩; have HV := Lib.hid hv; clear hv)
          | (go_at_call 20; refine (HC.out _ v HV.out HX.out).mono ?_; rintro e w1 ⟨o, rfl, hr, c1⟩; obtain ⟨a, c, rfl⟩ := hr.form; have HR := Lib.hid hr; clear hr; unfold two)
          | (go_at_call 21; refine (HRC.out _ v (HX.out.keep0 c1)).mono ?_; rintro e w2 ⟨o, rfl, hr, c2⟩; obtain rfl := HR.out.unique hr; clear hr; unfold two)
          | (go_at_call 13; refine (awake_any _).mono ?_; rintro e w3 ⟨rfl, c3⟩))
        go_ret
        exact ⟨by simp, ((hch.then c1).then c2).then c3⟩
end Go.Proofs.Ytfmbekdhkilflaa
