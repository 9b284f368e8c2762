/-
  Count, IsBusiness; the reference's has, IsBusiness.
-/
import Derived.Test.YtfmbekdhkilflaaC5
namespace Go.Proofs.Ytfmbekdhkilflaa
open Go.RowKit Go.Sort

/-- What Count answers. -/
def CountR (zs : List Int) (a b : Int) (o : Value) : Prop :=
  if 1000 < zs.length then o = two 0 2
  else if isd a = false ∨ isd b = false then o = two 0 1
  else o = two (cnt (bus zs) a (b - a).toNat : Int) 0
theorem CountR.unique {zs : List Int} {d n : Int} {o o' : Value} (h : CountR zs d n o) (h' : CountR zs d n o') : o = o' := by
  unfold CountR at h h'
  by_cases c : 1000 < zs.length
  · rw [if_pos c] at h h'; rw [h, h']
  · rw [if_neg c] at h h'
    by_cases c2 : isd d = false ∨ isd n = false
    · rw [if_pos c2] at h h'; rw [h, h']
    · rw [if_neg c2] at h h'; rw [h, h']
theorem CountR.long {zs : List Int} {a b : Int} (h : 1000 < zs.length) : CountR zs a b (two 0 2) := by unfold CountR; rw [if_pos h]
theorem CountR.range {zs : List Int} {a b : Int} (h : zs.length ≤ 1000) (h2 : isd a = false ∨ isd b = false) : CountR zs a b (two 0 1) := by
  unfold CountR; rw [if_neg (by omega), if_pos h2]
theorem CountR.ok {zs : List Int} {a b : Int} (h : zs.length ≤ 1000) (h1 : isd a = true) (h2 : isd b = true) : CountR zs a b (two (cnt (bus zs) a (b - a).toNat : Int) 0) := by
  unfold CountR; rw [if_neg (by omega), if_neg (by rintro (h5 | h5) <;> simp_all)]
theorem CountR.form {zs : List Int} {d n : Int} {o : Value} (h : CountR zs d n o) : ∃ a c, o = two a c := by
  unfold CountR at h
  split at h
  · exact ⟨_, _, h⟩
  · split at h
    · exact ⟨_, _, h⟩
    · exact ⟨_, _, h⟩

set_option maxRecDepth 20000 in
set_option maxHeartbeats 2000000 in
theorem count_any (zs : List Int) (a b : Int) (l : Nat) (A : Option Addr) (cap : Nat) (w : World) (hl : zs.length = l) (hl2 : l ≤ 9223372036854775807) (hz : ∀ x, x ∈ zs → I64 x) (hx : RdZ w A zs) :
    Calls Try.prog 23 #[.int .i64 a, .int .i64 b, .slice A l cap] w fun e w' => ∃ o, e = .returned o ∧ CountR zs a b o ∧ Chg [] w w' := by
  have hch : Chg [] w w := Chg.refl _ _
  by_cases hlong : 1000 < l
  · have HR := Lib.hid (CountR.long (zs := zs) (a := a) (b := b) (by rw [hl]; exact hlong))
    clear hl hz hx
    have d1 : decide ((1000 : Int) < (l : Int)) = true := decide_eq_true (by omega)
    go_enter Try.func23, Try.ntmps23
    go_wp2_with fail
    go_ret2
    exact ⟨_, rfl, HR.out, hch⟩
  · have d1 : decide ((1000 : Int) < (l : Int)) = false := decide_eq_false (by omega)
    cases hia : isd a with
    | false =>
      have HR := Lib.hid (CountR.range (zs := zs) (a := a) (b := b) (by rw [hl]; omega) (.inl hia))
      have HA := Lib.hid hia
      clear hl hz hx hia
      go_enter Try.func23, Try.ntmps23
      go_wp2_with (go_at_call 26; refine (isDay_any a _ false HA.out).mono ?_; rintro e w' ⟨rfl, hw⟩; obtain rfl := hw.symm; clear hw)
      go_ret2
      exact ⟨_, rfl, HR.out, hch⟩
    | true =>
      obtain ⟨i1, i2⟩ := isd_yes hia
      have HA := Lib.hid hia
      cases hib : isd b with
      | false =>
        have HR := Lib.hid (CountR.range (zs := zs) (a := a) (b := b) (by rw [hl]; omega) (.inr hib))
        have HB := Lib.hid hib
        clear hl hz hx hia hib
        have HD : ∀ (x : Int) (y : Bool) (w : World), isd x = y → Calls Try.prog 26 #[.int .i64 x] w fun e w' => e = .returned (.bool y) ∧ w' = w := fun x y w h => isDay_any x w y h
        have HDD := Lib.hid HD
        clear HD
        by_cases hab : a = b
        · subst hab
          have := HA.out; rw [HB.out] at this; cases this
        · go_enter Try.func23, Try.ntmps23
          go_wp2_with (first
            | (go_at_call 26; (with_reducible refine (isDay_any a _ true HA.out).mono ?_); rintro e w' ⟨rfl, hw⟩; obtain rfl := hw.symm; clear hw)
            | (go_at_call 26; (with_reducible refine (isDay_any b _ false HB.out).mono ?_); rintro e w' ⟨rfl, hw⟩; obtain rfl := hw.symm; clear hw))
          go_ret2
          exact ⟨_, rfl, HR.out, hch⟩
      | true =>
        obtain ⟨j1, j2⟩ := isd_yes hib
        have HB := Lib.hid hib
        have HOK := Lib.hid (CountR.ok (zs := zs) (by rw [hl]; omega) hia hib)
        have HEQ := Lib.hid (count_eq zs a (b - a).toNat i1)
        have HCL := Lib.hid (fun u => closed_any zs a b l A cap u hl (by omega) hz)
        have HX := Lib.hid hx
        have hcl : (clo zs a b).length ≤ 1000 := by have := clo_len zs a b; omega
        clear hl hz hx hia hib
        by_cases hle : b ≤ a
        · have d2 : decide (b ≤ a) = true := decide_eq_true hle
          have HOK2 : Hid (CountR zs a b (two 0 0)) := Lib.hid (by
            have := HOK.out
            rwa [show (b - a).toNat = 0 by omega] at this)
          clear hle
          go_enter Try.func23, Try.ntmps23
          go_wp2_with (first
            | (go_at_call 26; (with_reducible refine (isDay_any a _ true HA.out).mono ?_); rintro e w' ⟨rfl, hw⟩; obtain rfl := hw.symm; clear hw)
            | (go_at_call 26; (with_reducible refine (isDay_any b _ true HB.out).mono ?_); rintro e w' ⟨rfl, hw⟩; obtain rfl := hw.symm; clear hw))
          go_ret2
          exact ⟨_, rfl, HOK2.out, hch⟩
        · have d2 : decide (b ≤ a) = false := decide_eq_false hle
          have hcast : a + ((b - a).toNat : Int) = b := by omega
          have HEQ2 := Lib.hid (by have := HEQ.out; rwa [hcast] at this)
          have na1 := num_nonneg i1
          have na2 := num_le i1
          have nb1 := num_nonneg j1
          have nb2 := num_le j1
          obtain ⟨p, HP⟩ := name_it (num a)
          obtain ⟨q, HQ⟩ := name_it (num b)
          obtain ⟨c, HC⟩ := name_it (clo zs a b).length
          rw [HP.out] at na1 na2 HEQ2
          rw [HQ.out] at nb1 nb2 HEQ2
          rw [HC.out] at hcl HEQ2
          have HOK2 : Hid (CountR zs a b (two (q - p - c) 0)) := Lib.hid (by
            have := HOK.out
            rwa [← HEQ2.out] at this)
          clear hle hcast
          go_enter Try.func23, Try.ntmps23
          go_wp2_with (first
            | (go_at_call 26; (with_reducible refine (isDay_any a _ true HA.out).mono ?_); rintro e w' ⟨rfl, hw⟩; obtain rfl := hw.symm; clear hw)
            | (go_at_call 26; (with_reducible refine (isDay_any b _ true HB.out).mono ?_); rintro e w' ⟨rfl, hw⟩; obtain rfl := hw.symm; clear hw)
            | (go_at_call 31; (with_reducible refine (number_any b _ j1 (by omega)).mono ?_); rintro e w' ⟨rfl, hw⟩; obtain rfl := hw.symm; clear hw; rw [HQ.out])
            | (go_at_call 31; (with_reducible refine (number_any a _ i1 (by omega)).mono ?_); rintro e w' ⟨rfl, hw⟩; obtain rfl := hw.symm; clear hw; rw [HP.out])
            | (go_at_call 32; refine (HCL.out w HX.out).mono ?_; rintro e w1 ⟨v, rfl, hnew⟩; obtain ⟨A1, cap1, rfl, _⟩ := hnew.1.rdz; have c1 := hnew.2.2; rw [HC.out]; clear hnew))
          go_ret2
          exact ⟨_, rfl, HOK2.out, hch.then c1⟩

/-- Whether a day is a business day. -/
def busD (zs : List Int) (d : Int) : Bool := isd d && bus zs d
theorem busD_is {zs : List Int} {d : Int} (h : 0 ≤ d) (h2 : d ≤ 1048576) : busD zs d = bus zs d := by
  unfold busD; rw [show isd d = true from decide_eq_true ⟨h, h2⟩]; rfl

theorem contains_any (zs : List Int) (x : Int) (l : Nat) (A : Option Addr) (cap : Nat) (w : World) (b : Bool) (hl : zs.length = l) (hl2 : l ≤ 9223372036854775807) (hx : RdZ w A zs) (hb : zs.contains x = b) :
    Calls Try.prog 28 #[.slice A l cap, .int .i64 x] w fun e w' => e = .returned (.bool b) ∧ w' = w := by
  by_cases h0 : 0 < zs.length
  · obtain ⟨g, o, rfl, _, hc⟩ := hx h0
    have := Try.contains_int g o l cap zs x w (by omega) hl2 hc
    rwa [show zs.take l = zs from List.take_of_length_le (by omega), hb] at this
  · obtain rfl : zs = [] := List.eq_nil_of_length_eq_zero (by omega)
    have hl' : l = 0 := by simpa using hl.symm
    subst hl'
    have hb' : false = b := by rw [← hb]; rfl
    rw [← hb']
    exact Try.contains_int_empty A cap x w

set_option maxRecDepth 20000 in
set_option maxHeartbeats 1000000 in
theorem isBusiness_any (zs : List Int) (d : Int) (l : Nat) (A : Option Addr) (cap : Nat) (w : World) (hd : I64 d) (hl : zs.length = l) (hl2 : l ≤ 9223372036854775807) (hx : RdZ w A zs) :
    Calls Try.prog 15 #[.int .i64 d, .slice A l cap] w fun e w' => e = .returned (.bool (busD zs d)) ∧ w' = w := by
  have HD := Lib.hid hd
  cases hi : isd d with
  | false =>
    have HI := Lib.hid hi
    have HB : Hid (busD zs d = false) := Lib.hid (by unfold busD; rw [hi]; rfl)
    clear hl hx hi hd
    rw [HB.out]
    go_enter Try.func15, Try.ntmps15
    go_wp2_with (go_at_call 26; refine (isDay_any d _ false HI.out).mono ?_; rintro e w' ⟨rfl, hw⟩; obtain rfl := hw.symm; clear hw)
    go_ret
    exact ⟨rfl, rfl⟩
  | true =>
    have HI := Lib.hid hi
    cases hw' : wkd d with
    | false =>
      have HW := Lib.hid hw'
      have HB : Hid (busD zs d = false) := Lib.hid (by unfold busD bus; rw [hi, hw']; rfl)
      clear hl hx hi hd hw'
      rw [HB.out]
      go_enter Try.func15, Try.ntmps15
      go_wp2_with (first
        | (go_at_call 26; refine (isDay_any d _ true HI.out).mono ?_; rintro e w' ⟨rfl, hw⟩; obtain rfl := hw.symm; clear hw)
        | (go_at_call 27; refine (isWeekday_any d _ false HD.out HW.out).mono ?_; rintro e w' ⟨rfl, hw⟩; obtain rfl := hw.symm; clear hw))
      go_ret
      exact ⟨rfl, rfl⟩
    | true =>
      have HW := Lib.hid hw'
      obtain ⟨b, HBB⟩ := name_it (zs.contains d)
      have HB : Hid (busD zs d = !b) := Lib.hid (by unfold busD bus; rw [hi, hw', HBB.out]; rfl)
      have HC := Lib.hid (contains_any zs d l A cap w b hl hl2 hx HBB.out)
      clear hl hx hi hd hw'
      rw [HB.out]
      go_enter Try.func15, Try.ntmps15
      go_wp2_with (first
        | (go_at_call 26; refine (isDay_any d _ true HI.out).mono ?_; rintro e w' ⟨rfl, hw⟩; obtain rfl := hw.symm; clear hw)
        | (go_at_call 27; refine (isWeekday_any d _ true HD.out HW.out).mono ?_; rintro e w' ⟨rfl, hw⟩; obtain rfl := hw.symm; clear hw)
        | (go_at_call 28; refine HC.out.mono ?_; rintro e w' ⟨rfl, hw⟩; obtain rfl := hw.symm; clear hw))
      go_ret
      exact ⟨rfl, rfl⟩
end Go.Proofs.Ytfmbekdhkilflaa
