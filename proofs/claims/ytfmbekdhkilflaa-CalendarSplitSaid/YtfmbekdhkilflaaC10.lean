/-
  The laws CalendarCount, CalendarMany, CalendarInverse.
-/
import Derived.Test.YtfmbekdhkilflaaC9
namespace Go.Proofs.Ytfmbekdhkilflaa
open Go.RowKit Go.Sort

set_option maxRecDepth 20000 in
set_option maxHeartbeats 4000000 in
theorem lcount_any (a b : Int) (zs : List Int) (l : Nat) (A : Option Addr) (cap : Nat) (w : World) (ha : I64 a) (hb : I64 b) (hl : zs.length = l) (hl2 : l ≤ 9223372036854775807) (hz : ∀ x, x ∈ zs → I64 x) (hx : RdZ w A zs) :
    Calls Try.prog 7 #[.int .i64 a, .int .i64 b, .slice A l cap] w fun e w' => e = .returned (.bool true) ∧ Chg [] w w' := by
  have HC := Lib.hid (fun u x y (h : RdZ u A zs) => count_any zs x y l A cap u hl hl2 hz h)
  have HRC := Lib.hid (fun u x y (h : RdZ u A zs) => rcount_any zs x y l A cap u hl hl2 h)
  have HX := Lib.hid hx
  have HA := Lib.hid ha
  have HB := Lib.hid hb
  have hch : Chg [] w w := Chg.refl _ _
  clear hl ha hb hx hz
  go_enter Try.func7, Try.ntmps7
  go_upto_region 2 with (first
    | (go_at_call 17; (with_reducible refine (near_any a _ HA.out).mono ?_); rintro e w' ⟨x, rfl, hv, rfl⟩; have HV := Lib.hid hv; clear hv)
    | (go_at_call 17; (with_reducible refine (near_any b _ HB.out).mono ?_); rintro e w' ⟨y, rfl, hv, rfl⟩; have HVY := Lib.hid hv; clear hv))
  by_cases hlong : 100 < l
  · have d1 : decide ((100 : Int) < (l : Int)) = true := decide_eq_true (by omega)
    clear hlong
    go_wp2_with (go_at_call 13; refine (awake_any _).mono ?_; rintro e w1 ⟨rfl, c1⟩)
    go_ret
    exact ⟨rfl, hch.then c1⟩
  · have d1 : decide ((100 : Int) < (l : Int)) = false := decide_eq_false (by omega)
    clear hlong
    cases hix : isd x with
    | false =>
      have HI := Lib.hid hix
      clear hix
      go_wp2_with (first
        | (go_at_call 22; (with_reducible refine (rIsDay_any x _ false HI.out).mono ?_); rintro e w' ⟨rfl, hw⟩; obtain rfl := hw.symm; clear hw)
        | (go_at_call 23; refine (HC.out _ x y HX.out).mono ?_; rintro e w1 ⟨o, rfl, hr, c1⟩; obtain ⟨s, t, rfl⟩ := hr.form; have HR := Lib.hid hr; clear hr; unfold two)
        | (go_at_call 24; refine (HRC.out _ x y (HX.out.keep0 c1)).mono ?_; rintro e w2 ⟨o, rfl, hr, c2⟩; obtain rfl := HR.out.unique hr; clear hr; unfold two)
        | (go_at_call 13; refine (awake_any _).mono ?_; rintro e w3 ⟨rfl, c3⟩))
      go_ret
      exact ⟨by simp, ((hch.then c1).then c2).then c3⟩
    | true =>
      obtain ⟨x1, x2⟩ := isd_yes hix
      have HI := Lib.hid hix
      clear hix
      cases hiy : isd y with
      | false =>
        have HJ := Lib.hid hiy
        clear hiy
        go_wp2_with (first
          | (go_at_call 22; (with_reducible refine (rIsDay_any x _ true HI.out).mono ?_); rintro e w' ⟨rfl, hw⟩; obtain rfl := hw.symm; clear hw)
          | (go_at_call 22; (with_reducible refine (rIsDay_any y _ false HJ.out).mono ?_); rintro e w' ⟨rfl, hw⟩; obtain rfl := hw.symm; clear hw)
          | (go_at_call 23; refine (HC.out _ x y HX.out).mono ?_; rintro e w1 ⟨o, rfl, hr, c1⟩; obtain ⟨s, t, rfl⟩ := hr.form; have HR := Lib.hid hr; clear hr; unfold two)
          | (go_at_call 24; refine (HRC.out _ x y (HX.out.keep0 c1)).mono ?_; rintro e w2 ⟨o, rfl, hr, c2⟩; obtain rfl := HR.out.unique hr; clear hr; unfold two)
          | (go_at_call 13; refine (awake_any _).mono ?_; rintro e w3 ⟨rfl, c3⟩))
        go_ret
        exact ⟨by simp, ((hch.then c1).then c2).then c3⟩
      | true =>
        obtain ⟨y1, y2⟩ := isd_yes hiy
        have HJ := Lib.hid hiy
        clear hiy
        by_cases hfar : 3000 < y - x
        · have d2 : decide (3000 < y - x) = true := decide_eq_true hfar
          clear hfar
          go_wp2_with (first
            | (go_at_call 22; (with_reducible refine (rIsDay_any x _ true HI.out).mono ?_); rintro e w' ⟨rfl, hw⟩; obtain rfl := hw.symm; clear hw)
            | (go_at_call 22; (with_reducible refine (rIsDay_any y _ true HJ.out).mono ?_); rintro e w' ⟨rfl, hw⟩; obtain rfl := hw.symm; clear hw)
            | (go_at_call 13; refine (awake_any _).mono ?_; rintro e w3 ⟨rfl, c3⟩))
          go_ret
          exact ⟨by simp, hch.then c3⟩
        · have d2 : decide (3000 < y - x) = false := decide_eq_false hfar
          clear hfar
          go_wp2_with (first
            | (go_at_call 22; (with_reducible refine (rIsDay_any x _ true HI.out).mono ?_); rintro e w' ⟨rfl, hw⟩; obtain rfl := hw.symm; clear hw)
            | (go_at_call 22; (with_reducible refine (rIsDay_any y _ true HJ.out).mono ?_); rintro e w' ⟨rfl, hw⟩; obtain rfl := hw.symm; clear hw)
            | (go_at_call 23; refine (HC.out _ x y HX.out).mono ?_; rintro e w1 ⟨o, rfl, hr, c1⟩; obtain ⟨s, t, rfl⟩ := hr.form; have HR := Lib.hid hr; clear hr; unfold two)
            | (go_at_call 24; refine (HRC.out _ x y (HX.out.keep0 c1)).mono ?_; rintro e w2 ⟨o, rfl, hr, c2⟩; obtain rfl := HR.out.unique hr; clear hr; unfold two)
            | (go_at_call 13; refine (awake_any _).mono ?_; rintro e w3 ⟨rfl, c3⟩))
          go_ret
          exact ⟨by simp, ((hch.then c1).then c2).then c3⟩

/-- Add, early in the calendar: the day is found. -/
theorem add_soon (zs : List Int) (d n : Int) (l : Nat) (A : Option Addr) (cap : Nat) (w : World) (h1 : 0 ≤ d) (h2 : d ≤ 90000) (h3 : 0 ≤ n) (h4 : n ≤ 1000) (hl : zs.length = l) (hl2 : l ≤ 1000) (hz : ∀ x, x ∈ zs → I64 x) (hx : RdZ w A zs) :
    Calls Try.prog 20 #[.int .i64 d, .int .i64 n, .slice A l cap] w fun e w' => ∃ x, e = .returned (.tuple #[.int .i64 x, .int .i64 0]) ∧ (d ≤ x ∧ x ≤ d + 6001 ∧ bus zs x = true ∧ cnt (bus zs) (if n = 0 then d else d + 1) (x - (if n = 0 then d else d + 1)).toNat = (n - 1).toNat ∧ (n ≠ 0 → d < x) ∧ AddR zs d n (two x 0)) ∧ Chg [] w w' :=
  (add_any zs d n l A cap w ⟨by omega, by omega⟩ ⟨by omega, by omega⟩ hl (by omega) hz hx).mono fun e w' ⟨o, he, hr, hc⟩ => by
    obtain ⟨v, hv, rfl⟩ := hr.get (by omega) (decide_eq_true ⟨by omega, by omega⟩) h3 (by omega)
    obtain ⟨x, rfl, h5, h6, h7, h8⟩ := hv.soon (by omega) (by split <;> omega) (by split <;> omega) (by omega)
    refine ⟨x, he, ⟨?_, ?_, h7, h8, ?_, hr⟩, hc⟩
    · split at h5 <;> omega
    · split at h6 <;> omega
    · intro h0; rw [if_neg h0] at h5; omega
theorem count_is (zs : List Int) (a b : Int) (l : Nat) (A : Option Addr) (cap : Nat) (w : World) (h1 : 0 ≤ a) (h2 : a ≤ 1048576) (h3 : 0 ≤ b) (h4 : b ≤ 1048576) (hl : zs.length = l) (hl2 : l ≤ 1000) (hz : ∀ x, x ∈ zs → I64 x) (hx : RdZ w A zs) :
    Calls Try.prog 23 #[.int .i64 a, .int .i64 b, .slice A l cap] w fun e w' => e = .returned (.tuple #[.int .i64 (cnt (bus zs) a (b - a).toNat : Nat), .int .i64 0]) ∧ Chg [] w w' :=
  (count_any zs a b l A cap w hl (by omega) hz hx).mono fun e w' ⟨o, he, hr, hc⟩ => by
    rw [hr.unique (CountR.ok (by omega) (decide_eq_true ⟨h1, h2⟩) (decide_eq_true ⟨h3, h4⟩))] at he
    exact ⟨he, hc⟩

theorem inverse_math {zs : List Int} {d x k : Int} (hk : 1 ≤ k) (h1 : d < x) (hb : bus zs x = true) (hc : cnt (bus zs) (d + 1) (x - (d + 1)).toNat = (k - 1).toNat) : ((cnt (bus zs) (d + 1) (x + 1 - (d + 1)).toNat : Nat) : Int) = k := by
  rw [cnt_next (bus zs) (d + 1) x (by omega), hb, hc]; simp; omega

set_option maxRecDepth 20000 in
set_option maxHeartbeats 2000000 in
theorem linverse_any (d n : Int) (L : List Nat) (l : Nat) (A : Option Addr) (cap : Nat) (w : World) (hd : 0 ≤ d ∧ d ≤ 255) (hn : 0 ≤ n ∧ n ≤ 255) (hl : L.length = l) (hl2 : l ≤ 9223372036854775807) (hb : ∀ x, x ∈ L → x < 256) (hx : RdU w A L) :
    Calls Try.prog 9 #[.int .u8 d, .int .u8 n, .slice A l cap] w fun e w' => e = .returned (.bool true) ∧ Chg [] w w' := by
  obtain ⟨d1, d2⟩ := hd
  obtain ⟨n1, n2⟩ := hn
  have hch : Chg [] w w := Chg.refl _ _
  have HDY := Lib.hid (days_any L l A cap w hl hl2 hb hx)
  have hlen := dayz_len L
  have HIN := Lib.hid (dayz_in L)
  clear hl hb hx
  obtain ⟨zs, HZ⟩ := name_it (dayz L)
  rw [HZ.out] at HDY hlen HIN
  obtain ⟨m, Hm⟩ := name_it zs.length
  rw [Hm.out] at hlen
  obtain ⟨k, HK⟩ := name_it (1 + n % 60)
  have k1 : 1 ≤ k := by rw [← HK.out]; omega
  have k2 : k ≤ 60 := by rw [← HK.out]; omega
  go_enter Try.func9, Try.ntmps9
  go_wp2_with (first
    | (go_at_call 25; refine HDY.out.mono ?_; rintro e w1 ⟨v, rfl, hnew⟩; obtain ⟨B, cp, rfl, hr⟩ := hnew.1.rdz; have HR := Lib.hid hr; have c1 := hnew.2.2; rw [Hm.out]; clear hr hnew)
    | (go_at_call 20; rw [HK.out]; refine (add_soon zs d k m B cp _ d1 (by omega) (by omega) (by omega) Hm.out (by omega) HIN.out HR.out).mono ?_; rintro e w2 ⟨x, rfl, hx, c2⟩; have HXX := Lib.hid hx; clear hx; have x1 := HXX.out.1; have x2 := HXX.out.2.1)
    | (go_at_call 23; refine (count_is zs (d + 1) (x + 1) m B cp _ (by omega) (by omega) (by omega) (by omega) Hm.out (by omega) HIN.out (HR.out.keep0 c2)).mono ?_; rintro e w3 ⟨rfl, c3⟩; rw [inverse_math (d := d) k1 (HXX.out.2.2.2.2.1 (by omega)) HXX.out.2.2.1 (by have := HXX.out.2.2.2.1; rwa [if_neg (by omega)] at this)])
    | (go_at_call 15; refine (isBusiness_any zs x m B cp _ ⟨by omega, by omega⟩ Hm.out (by omega) (((HR.out.keep0 c2).keep0 c3).keep0 c4)).mono ?_; rintro e w' ⟨rfl, hw⟩; obtain rfl := hw.symm; clear hw; rw [busD_is (by omega) (by omega), HXX.out.2.2.1])
    | (go_at_call 13; refine (awake_any _).mono ?_; rintro e w4 ⟨rfl, c4⟩))
  go_ret
  exact ⟨by simp, (((hch.then c1).then c2).then c3).then c4⟩
end Go.Proofs.Ytfmbekdhkilflaa
