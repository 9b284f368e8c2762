/-
  Law: Int64.
-/
import Derived.Test.YtcliibhooeffdaaGreatDoorLA1
import Derived.Test.YtcliibhooeffdaaGreatDoorV11
import Derived.Test.YtcliibhooeffdaaGreatDoorGJ
namespace Go.Proofs.YtcliibhooeffdaaGreatDoor
open Go.RowKit Nd
theorem bd_int {n : Int} (h1 : -9223372036854775808 ≤ n) (h2 : n ≤ 9223372036854775807) : Bd 8 (n : Rat) := by
  refine ⟨?_, ?_⟩
  · rw [Rat.num_intCast]
    have : (256 : Nat) ^ 8 = 18446744073709551616 := by decide
    omega
  · rw [Rat.den_intCast]; decide
theorem i64_int {n : Int} (h1 : -9223372036854775808 ≤ n) (h2 : n ≤ 9223372036854775807) : i64ok (n : Rat) = true ∧ i64v (n : Rat) = n := by
  have := i64_t (p := (n : Rat)) (Rat.den_intCast n) (by rw [Rat.num_intCast]; exact h1) (by rw [Rat.num_intCast]; exact h2)
  rwa [Rat.num_intCast] at this
theorem IntN (n : Int) (w : World) (h1 : -9223372036854775808 ≤ n) (h2 : n ≤ 9223372036854775807) :
    Calls Tryz.prog 19 #[.int .i64 n] w fun e w' => ∃ z, e = .returned (.agg #[.bool z.neg, .string z.num, .string z.den]) ∧ Val z (n : Rat) 8 ∧ Chg [] w w' := by
  refine (Int_any n w h1 h2).mono ?_
  rintro e w1 ⟨z, rfl, hz, c1⟩
  exact ⟨z, rfl, ⟨hz, bd_int h1 h2⟩, c1⟩
theorem Int64I (x : Q3) (n : Int) (k : Nat) (w : World) (hx : Num x (n : Rat) k) (hk : k ≤ 34359738367) (h1 : -9223372036854775808 ≤ n) (h2 : n ≤ 9223372036854775807) :
    Calls Tryz.prog 17 #[.agg #[.bool x.neg, .string x.num, .string x.den]] w fun e w' => e = .returned (.tuple #[.int .i64 n, .bool true]) ∧ Chg [] w w' := by
  have h := Int64N x (n : Rat) k w hx hk
  rwa [(i64_int h1 h2).1, (i64_int h1 h2).2] at h
theorem Int64O (x : Q3) (n : Int) (k : Nat) (w : World) (hx : Num x (n : Rat) k) (hk : k ≤ 34359738367) (h : n < -9223372036854775808 ∨ 9223372036854775807 < n) :
    Calls Tryz.prog 17 #[.agg #[.bool x.neg, .string x.num, .string x.den]] w fun e w' => e = .returned (.tuple #[.int .i64 0, .bool false]) ∧ Chg [] w w' := by
  have h3 := Int64N x (n : Rat) k w hx hk
  have h4 := i64_f (p := (n : Rat)) (by rw [Rat.num_intCast]; omega)
  rwa [h4.1, h4.2] at h3

set_option maxRecDepth 20000 in
set_option maxHeartbeats 2000000 in
theorem lint64_any (x : Q3) (n : Int) (w : World) (h1 : -9223372036854775808 ≤ n) (h2 : n ≤ 9223372036854775807) :
    Calls Tryz.prog 3 #[.agg #[.bool x.neg, .string x.num, .string x.den], .int .i64 n] w fun e w' => e = .returned (.bool true) ∧ Chg [] w w' := by
  have hch : Chg [] w (((w).alloc (.cells #[.bool x.neg, .string x.num, .string x.den] 23)).alloc (.cells #[.bool x.neg, .string x.num, .string x.den] 23)) := (((Chg.refl _ _).alloc _).alloc _)
  have b1 := Blk3.alloc (w) (.bool x.neg) (.string x.num) (.string x.den) 23
  replace b1 := b1.keep ((Chg.refl [] _).alloc (.cells #[.bool x.neg, .string x.num, .string x.den] 23)) (by simp)
  have hr := Rats.one ((w).alloc (.cells #[.bool x.neg, .string x.num, .string x.den] 23)) x 23
  simp only [World.size_alloc] at hr b1
  cases hf : fewQ [x]
  · have HF := Lib.hid hf
    clear hf
    go_enter Tryz.func3, Tryz.ntmps3
    go_wp2_with fail
    refine (few2_any [x] (w.heap.size + 1) 1 _ hr (by simp)).mono ?_
    rintro e w1 ⟨rfl, c1⟩
    rw [HF.out]
    replace hch := hch.then c1
    clear c1
    go_wp2_with fail
    refine (awake2_any _).mono ?_
    rintro e w2 ⟨rfl, c1⟩
    replace hch := hch.then c1
    clear c1
    go_wp2_with fail
    go_ret
    exact ⟨rfl, hch⟩
  · have hss : x.num.size ≤ 24 ∧ x.den.size ≤ 24 := by simpa [fewQ, shortQ] using hf
    have HF := Lib.hid hf
    obtain ⟨sx1, sx2⟩ := hss
    obtain ⟨p, Hp⟩ := name_it (ratOf x)
    have nx : Num x p 24 := ⟨Hp.out, ⟨sx1, sx2⟩, by omega⟩
    clear hf sx1 sx2 Hp
    go_enter Tryz.func3, Tryz.ntmps3
    go_wp2_with fail
    refine (few2_any [x] (w.heap.size + 1) 1 _ hr (by simp)).mono ?_
    rintro e w1 ⟨rfl, c1⟩
    rw [HF.out]
    replace b1 := b1.keep c1 (by simp)
    replace hch := hch.then c1
    clear c1 hr HF
    have b1c0 := b1.c0
    have b1c1 := b1.c1
    have b1c2 := b1.c2
    have b1f0 := b1.f0
    have b1f1 := b1.f1
    have b1f2 := b1.f2
    have b1l := b1.lt
    go_wp2_with fail
    clear b1c0 b1f0 b1c1 b1f1 b1c2 b1f2 b1l
    obtain ⟨w0, HW0⟩ := name_it w1
    rw [HW0.out] at b1 hch ⊢
    refine (Int64N x p 24 _ nx (by omega)).mono ?_
    rintro e w1 ⟨rfl, c1⟩
    replace b1 := b1.keep c1 (by simp)
    replace hch := hch.then c1
    clear c1
    have b1c0 := b1.c0
    have b1c1 := b1.c1
    have b1c2 := b1.c2
    have b1f0 := b1.f0
    have b1f1 := b1.f1
    have b1f2 := b1.f2
    have b1l := b1.lt
    go_wp2_with fail
    refine (rInt64N x p 24 _ nx (by omega)).mono ?_
    rintro e w1 ⟨rfl, c1⟩
    clear b1c0 b1f0 b1c1 b1f1 b1c2 b1f2 b1l
    replace b1 := b1.keep c1 (by simp)
    replace hch := hch.then c1
    clear c1
    have b1c0 := b1.c0
    have b1c1 := b1.c1
    have b1c2 := b1.c2
    have b1f0 := b1.f0
    have b1f1 := b1.f1
    have b1f2 := b1.f2
    have b1l := b1.lt
    go_wp2_with fail
    refine (IntN n _ h1 h2).mono ?_
    rintro e w1 ⟨z, rfl, hz, c1⟩
    clear b1c0 b1f0 b1c1 b1f1 b1c2 b1f2 b1l
    replace b1 := b1.keep c1 (by simp)
    replace hch := hch.then c1
    clear c1
    have b1c0 := b1.c0
    have b1c1 := b1.c1
    have b1c2 := b1.c2
    have b1f0 := b1.f0
    have b1f1 := b1.f1
    have b1f2 := b1.f2
    have b1l := b1.lt
    go_wp2_with fail
    refine (Int64I z n 8 _ hz.num (by omega) h1 h2).mono ?_
    rintro e w1 ⟨rfl, c1⟩
    clear b1c0 b1f0 b1c1 b1f1 b1c2 b1f2 b1l
    replace b1 := b1.keep c1 (by simp)
    replace hch := hch.then c1
    clear c1
    have b1c0 := b1.c0
    have b1c1 := b1.c1
    have b1c2 := b1.c2
    have b1f0 := b1.f0
    have b1f1 := b1.f1
    have b1f2 := b1.f2
    have b1l := b1.lt
    go_wp2_with fail
    refine (awake2_any _).mono ?_
    rintro e w1 ⟨rfl, c1⟩
    clear b1c0 b1f0 b1c1 b1f1 b1c2 b1f2 b1l
    replace b1 := b1.keep c1 (by simp)
    replace hch := hch.then c1
    clear c1
    have b1c0 := b1.c0
    have b1c1 := b1.c1
    have b1c2 := b1.c2
    have b1f0 := b1.f0
    have b1f1 := b1.f1
    have b1f2 := b1.f2
    have b1l := b1.lt
    go_wp2_with fail
    go_ret
    exact ⟨ret_eq (by simp), hch⟩

end Go.Proofs.YtcliibhooeffdaaGreatDoor
