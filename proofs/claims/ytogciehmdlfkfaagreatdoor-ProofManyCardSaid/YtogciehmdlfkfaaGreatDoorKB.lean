/-
  Of law 0: Whole, Ratio, Amount, Signed.
-/
import Derived.Test.YtogciehmdlfkfaaGreatDoorKC0
namespace Go.Proofs.YtogciehmdlfkfaaGreatDoor
open Go.RowKit Nd

theorem bd_int8 {n : Int} (h1 : -9223372036854775808 ≤ n) (h2 : n ≤ 9223372036854775807) : Bd 8 (n : Rat) := by
  refine ⟨?_, ?_⟩
  · rw [Rat.num_intCast]
    have : (256 : Nat) ^ 8 = 18446744073709551616 := by decide
    omega
  · rw [Rat.den_intCast]
    decide
theorem rIntV (n : Int) (w : World) (h1 : -9223372036854775808 ≤ n) (h2 : n ≤ 9223372036854775807) :
    Calls Tryz.prog 133 #[.int .i64 n] w fun e w' => ∃ z, e = .returned (.agg #[.bool z.neg, .string z.num, .string z.den]) ∧ Val z (n : Rat) 8 ∧ Chg [] w w' := by
  refine (rInt_any n w h1 h2).mono ?_
  rintro e w1 ⟨z, rfl, hz, c1⟩
  exact ⟨z, rfl, ⟨hz, bd_int8 h1 h2⟩, c1⟩
theorem bd_frac {a b : Int} {s : Bool} (h1 : -9223372036854775808 ≤ a) (h2 : a ≤ 9223372036854775807) (h3 : -9223372036854775808 ≤ b) (h4 : b ≤ 9223372036854775807) (hb : b ≠ 0) : Bd 8 (sq s a.natAbs b.natAbs) :=
  Bd_sq (by omega) (by omega) (by omega)

set_option maxRecDepth 20000 in
set_option maxHeartbeats 1000000 in
theorem whole_any (n : Int) (w : World) (h1 : -9223372036854775808 ≤ n) (h2 : n ≤ 9223372036854775807) :
    Calls Tryz.prog 103 #[.int .i64 n] w fun e w' => ∃ z, e = .returned (.agg #[.bool z.neg, .string z.num, .string z.den]) ∧ Val z (n : Rat) 8 ∧ Chg [] w w' := by
  have b1 := Blk3.alloc w (.bool false) (.string ⟨#[]⟩) (.string ⟨#[]⟩) 25
  have hch : Chg [] w (w.alloc (.cells #[.bool false, .string ⟨#[]⟩, .string ⟨#[]⟩] 25)) := (Chg.refl _ _).alloc _
  go_enter Tryz.func103, Tryz.ntmps103
  go_wp2_with fail
  refine (rIntV n _ h1 h2).mono ?_
  rintro e w1 ⟨z, rfl, hz, c1⟩
  have HZ := Lib.hid hz
  replace hch := hch.then c1
  replace b1 := b1.keep c1 (by simp)
  clear hz c1
  have S := b1.store (.bool z.neg) (.string z.num) (.string z.den)
  have hchS := hch.store3 (.inr (Nat.le_refl _)) (.bool z.neg) (.string z.num) (.string z.den)
  have b1c0 := b1.c0
  have b1c1 := b1.c1
  have b1c2 := b1.c2
  have b1f0 := b1.f0
  have b1f1 := b1.f1
  have b1f2 := b1.f2
  have b1l := b1.lt
  go_wp2_with fail
  exact bodyPost_ret (v := .agg #[.bool z.neg, .string z.num, .string z.den]) (by simp [results, Tryz.results103, go_sem, S.c0, S.c1, S.c2]) rfl ⟨z, rfl, HZ.out, hchS⟩

set_option maxRecDepth 20000 in
set_option maxHeartbeats 2000000 in
theorem ratio_any (a b : Int) (w : World) (h1 : -9223372036854775808 ≤ a) (h2 : a ≤ 9223372036854775807) (h3 : 1 ≤ b) (h4 : b ≤ 9223372036854775807) :
    Calls Tryz.prog 25 #[.int .i64 a, .int .i64 b] w fun e w' => ∃ z, e = .returned (.agg #[.bool z.neg, .string z.num, .string z.den]) ∧ Val z (sq (fsg a b) a.natAbs b.natAbs) 8 ∧ Chg [] w w' := by
  have b1 := Blk3.alloc w (.bool false) (.string ⟨#[]⟩) (.string ⟨#[]⟩) 25
  have hch : Chg [] w (w.alloc (.cells #[.bool false, .string ⟨#[]⟩, .string ⟨#[]⟩] 25)) := (Chg.refl _ _).alloc _
  have HBD := Lib.hid (bd_frac (s := fsg a b) h1 h2 (by omega) h4 (show b ≠ 0 by omega))
  obtain ⟨q, HQ⟩ := name_it (sq (fsg a b) a.natAbs b.natAbs)
  rw [HQ.out] at HBD
  rw [HQ.out]
  have HFR := Lib.hid (fun u => rFraction_any a b u h1 h2 (by omega) h4 (by omega))
  rw [HQ.out] at HFR
  go_enter Tryz.func25, Tryz.ntmps25
  go_wp2_with fail
  refine (HFR.out _).mono ?_
  rintro e w1 ⟨z, rfl, hz, c1⟩
  have HZ := Lib.hid hz
  replace hch := hch.then c1
  replace b1 := b1.keep c1 (by simp)
  have hl1 := b1.lt
  have c2 : Chg [] w1 (w1.alloc (.cells #[.bool z.neg, .string z.num, .string z.den] 25)) := (Chg.refl _ _).alloc _
  have b2 := b1.keep c2 (by simp)
  have S := (b1.store (.bool z.neg) (.string z.num) (.string z.den)).keep ((Chg.refl [] _).alloc (.cells #[.bool z.neg, .string z.num, .string z.den] 25)) (by simp)
  have hchS := (hch.store3 (.inr (Nat.le_refl _)) (.bool z.neg) (.string z.num) (.string z.den)).alloc (.cells #[.bool z.neg, .string z.num, .string z.den] 25)
  have hne : w.heap.size ≠ w1.heap.size := by omega
  clear hz c1 c2
  have b1c0 := b1.c0
  have b1c1 := b1.c1
  have b1c2 := b1.c2
  have b1f0 := b1.f0
  have b1f1 := b1.f1
  have b1f2 := b1.f2
  have b1l := b1.lt
  have b2c0 := b2.c0
  have b2c1 := b2.c1
  have b2c2 := b2.c2
  have b2f0 := b2.f0
  have b2f1 := b2.f1
  have b2f2 := b2.f2
  have b2l := b2.lt
  go_wp2_with fail
  exact bodyPost_ret (v := .agg #[.bool z.neg, .string z.num, .string z.den]) (by simp [results, Tryz.results25, go_sem, S.c0, S.c1, S.c2]) rfl ⟨z, rfl, ⟨HZ.out, HBD.out⟩, hchS⟩

/-- The value of an amount. -/
def amtQ (x : Int) : Rat := if x % 5 = 0 then sq (fsg (x / 5 % 23) (1 + x / 115 % 6)) (x / 5 % 23).natAbs (1 + x / 115 % 6).natAbs else if x % 5 = 1 then ((10 * (x / 5 % 4) : Int) : Rat) else ((x / 5 % 13 : Int) : Rat)
theorem u16_div {x k : Int} (h1 : 0 ≤ x) (h2 : x ≤ 65535) (hk : 1 ≤ k) : IntKind.u16.wrap (x.tdiv k) = x / k := by
  rw [Int.tdiv_eq_ediv_of_nonneg h1, IntKind.wrap_u16]
  have h3 : 0 ≤ x / k := Int.ediv_nonneg h1 (by omega)
  have h4 : x / k ≤ x := Int.ediv_le_self k h1
  omega
set_option maxRecDepth 20000 in
set_option maxHeartbeats 2000000 in
theorem amount8_any (x : Int) (w : World) (h1 : 0 ≤ x) (h2 : x ≤ 65535) :
    Calls Tryz.prog 76 #[.int .u16 x] w fun e w' => ∃ z, e = .returned (.agg #[.bool z.neg, .string z.num, .string z.den]) ∧ Val z (amtQ x) 8 ∧ Chg [] w w' := by
  have b1 := Blk3.alloc w (.bool false) (.string ⟨#[]⟩) (.string ⟨#[]⟩) 25
  have hch : Chg [] w (w.alloc (.cells #[.bool false, .string ⟨#[]⟩, .string ⟨#[]⟩] 25)) := (Chg.refl _ _).alloc _
  obtain ⟨y, HY⟩ := name_it (x / 5)
  obtain ⟨y2, HY2⟩ := name_it (x / 115)
  have f1 : IntKind.u16.wrap (x.tdiv 5) = y := by rw [u16_div h1 h2 (by omega), HY.out]
  have f2 : IntKind.u16.wrap (x.tdiv 115) = y2 := by rw [u16_div h1 h2 (by omega), HY2.out]
  have y1 : 0 ≤ y := by rw [← HY.out]; omega
  have y3 : y ≤ 65535 := by rw [← HY.out]; omega
  have y4 : 0 ≤ y2 := by rw [← HY2.out]; omega
  have y5 : y2 ≤ 65535 := by rw [← HY2.out]; omega
  by_cases h5 : x % 5 = 0
  · have HV : Hid (amtQ x = sq (fsg (y % 23) (1 + y2 % 6)) (y % 23).natAbs (1 + y2 % 6).natAbs) := Lib.hid (by unfold amtQ; rw [if_pos h5, HY.out, HY2.out])
    obtain ⟨q, HQ⟩ := name_it (amtQ x)
    rw [HQ.out] at HV ⊢
    have d1 : (x % 5 == 0) = true := by simp; exact h5
    clear h5
    go_enter Tryz.func76, Tryz.ntmps76
    go_wp2_with fail
    refine (ratio_any (y % 23) (1 + y2 % 6) _ (by omega) (by omega) (by omega) (by omega)).mono ?_
    rintro e w1 ⟨z, rfl, hz, c1⟩
    rw [← HV.out] at hz
    have HZ := Lib.hid hz
    replace hch := hch.then c1
    replace b1 := b1.keep c1 (by simp)
    clear hz c1
    have S := b1.store (.bool z.neg) (.string z.num) (.string z.den)
    have hchS := hch.store3 (.inr (Nat.le_refl _)) (.bool z.neg) (.string z.num) (.string z.den)
    have b1c0 := b1.c0
    have b1c1 := b1.c1
    have b1c2 := b1.c2
    have b1f0 := b1.f0
    have b1f1 := b1.f1
    have b1f2 := b1.f2
    have b1l := b1.lt
    go_wp2_with fail
    exact bodyPost_ret (v := .agg #[.bool z.neg, .string z.num, .string z.den]) (by simp [results, Tryz.results76, go_sem, S.c0, S.c1, S.c2]) rfl ⟨z, rfl, HZ.out, hchS⟩
  · have d1 : (x % 5 == 0) = false := by simp; exact h5
    by_cases h6 : x % 5 = 1
    · have HV : Hid (amtQ x = ((10 * (y % 4) : Int) : Rat)) := Lib.hid (by unfold amtQ; rw [if_neg h5, if_pos h6, HY.out])
      obtain ⟨q, HQ⟩ := name_it (amtQ x)
      rw [HQ.out] at HV ⊢
      have d2 : (x % 5 == 1) = true := by simp; exact h6
      clear h5 h6
      go_enter Tryz.func76, Tryz.ntmps76
      go_wp2_with fail
      refine (whole_any (10 * (y % 4)) _ (by omega) (by omega)).mono ?_
      rintro e w1 ⟨z, rfl, hz, c1⟩
      rw [← HV.out] at hz
      have HZ := Lib.hid hz
      replace hch := hch.then c1
      replace b1 := b1.keep c1 (by simp)
      clear hz c1
      have S := b1.store (.bool z.neg) (.string z.num) (.string z.den)
      have hchS := hch.store3 (.inr (Nat.le_refl _)) (.bool z.neg) (.string z.num) (.string z.den)
      have b1c0 := b1.c0
      have b1c1 := b1.c1
      have b1c2 := b1.c2
      have b1f0 := b1.f0
      have b1f1 := b1.f1
      have b1f2 := b1.f2
      have b1l := b1.lt
      go_wp2_with fail
      exact bodyPost_ret (v := .agg #[.bool z.neg, .string z.num, .string z.den]) (by simp [results, Tryz.results76, go_sem, S.c0, S.c1, S.c2]) rfl ⟨z, rfl, HZ.out, hchS⟩
    · have HV : Hid (amtQ x = ((y % 13 : Int) : Rat)) := Lib.hid (by unfold amtQ; rw [if_neg h5, if_neg h6, HY.out])
      obtain ⟨q, HQ⟩ := name_it (amtQ x)
      rw [HQ.out] at HV ⊢
      have d2 : (x % 5 == 1) = false := by simp; exact h6
      clear h5 h6
      go_enter Tryz.func76, Tryz.ntmps76
      go_wp2_with fail
      refine (whole_any (y % 13) _ (by omega) (by omega)).mono ?_
      rintro e w1 ⟨z, rfl, hz, c1⟩
      rw [← HV.out] at hz
      have HZ := Lib.hid hz
      replace hch := hch.then c1
      replace b1 := b1.keep c1 (by simp)
      clear hz c1
      have S := b1.store (.bool z.neg) (.string z.num) (.string z.den)
      have hchS := hch.store3 (.inr (Nat.le_refl _)) (.bool z.neg) (.string z.num) (.string z.den)
      have b1c0 := b1.c0
      have b1c1 := b1.c1
      have b1c2 := b1.c2
      have b1f0 := b1.f0
      have b1f1 := b1.f1
      have b1f2 := b1.f2
      have b1l := b1.lt
      go_wp2_with fail
      exact bodyPost_ret (v := .agg #[.bool z.neg, .string z.num, .string z.den]) (by simp [results, Tryz.results76, go_sem, S.c0, S.c1, S.c2]) rfl ⟨z, rfl, HZ.out, hchS⟩

theorem bd_small {n : Int} (h1 : 0 ≤ n) (h2 : n ≤ 255) : Bd 1 (n : Rat) := by
  constructor
  · rw [Rat.num_intCast]; omega
  · rw [Rat.den_intCast]; omega
theorem amtQ_bd {x : Int} (_ : 0 ≤ x) (_ : x ≤ 65535) : Bd 1 (amtQ x) := by
  unfold amtQ
  split
  · exact Bd_sq (by omega) (by omega) (by omega)
  · split
    · exact bd_small (by omega) (by omega)
    · exact bd_small (by omega) (by omega)
theorem amount_any (x : Int) (w : World) (h1 : 0 ≤ x) (h2 : x ≤ 65535) :
    Calls Tryz.prog 76 #[.int .u16 x] w fun e w' => ∃ z, e = .returned (.agg #[.bool z.neg, .string z.num, .string z.den]) ∧ Val z (amtQ x) 1 ∧ Chg [] w w' :=
  (amount8_any x w h1 h2).mono fun _ _ ⟨z, he, hz, hc⟩ => ⟨z, he, ⟨hz.enc, amtQ_bd h1 h2⟩, hc⟩


/-- The value of Ratio. -/
def ratQ (a b : Int) : Rat := sq (fsg a b) a.natAbs b.natAbs
theorem frac_eq {a b : Int} (ha : 0 ≤ a) (hb : 0 < b) : sq (fsg a b) a.natAbs b.natAbs = (a : Rat) / (b : Rat) := by
  have h1 : fsg a b = false := by unfold fsg; simp; omega
  rw [h1]; unfold sq; rw [if_neg (by simp), Rat.mkRat_eq_div]
  congr 1
  · rw [show ((a.natAbs : Nat) : Int) = a by omega]
  · have : ((b.natAbs : Nat) : Int) = b := by omega
    rw [← Rat.intCast_natCast, this]
def sgnQ (x : Int) : Rat := if x % 2 = 1 then -(amtQ (x / 2)) else amtQ (x / 2)
end Go.Proofs.YtogciehmdlfkfaaGreatDoor
