/-
  awake, same and sum of law 4.
-/
import Derived.Test.YtdlejpaaoinokaaAM3
import Derived.Test.YtdlejpaaoinokaaGZ
import Derived.Test.YtdlejpaaoinokaaAKB
namespace Go.Proofs.Ytdlejpaaoinokaa
open Go.RowKit Nd

theorem IntV (n : Int) (w : World) (h1 : -9223372036854775808 ≤ n) (h2 : n ≤ 9223372036854775807) :
    Calls Try.prog 14 #[.int .i64 n] w fun e w' => ∃ z, e = .returned (.agg #[.bool z.neg, .string z.num, .string z.den]) ∧ Val z (n : Rat) 8 ∧ Chg [] w w' := by
  refine (Int_any n w h1 h2).mono ?_
  rintro e w1 ⟨z, rfl, hz, c1⟩
  exact ⟨z, rfl, ⟨hz, bd_int8 h1 h2⟩, c1⟩
theorem rds_two (w : World) (x y : Q3) : Rds (w.alloc (.cells #[.bool x.neg, .string x.num, .string x.den, .bool y.neg, .string y.num, .string y.den] 38)) (some ⟨w.heap.size, 0, none⟩) [x, y] := by
  intro _
  refine ⟨_, 0, rfl, by simp, fun j hj => ?_⟩
  rcases (by simp at hj; omega : j = 0 ∨ j = 1) with rfl | rfl
  · simp
  · simp
theorem rds_three (w : World) (x y z : Q3) : Rds (w.alloc (.cells #[.bool x.neg, .string x.num, .string x.den, .bool y.neg, .string y.num, .string y.den, .bool z.neg, .string z.num, .string z.den] 38)) (some ⟨w.heap.size, 0, none⟩) [x, y, z] := by
  intro _
  refine ⟨_, 0, rfl, by simp, fun j hj => ?_⟩
  rcases (by simp at hj; omega : j = 0 ∨ j = 1 ∨ j = 2) with rfl | rfl | rfl
  · simp
  · simp
  · simp
theorem chkA_pos {xs : List Q3} (h1 : xs.length ≤ 1024) (h2 : ∀ x ∈ xs, 0 ≤ ratOf x) : chkA xs = 0 := by
  unfold chkA
  rw [if_neg (by omega), show negL xs = false from ?_]
  · rfl
  · unfold negL
    rw [List.any_eq_false]
    intro x hx
    simpa using Rat.not_lt.2 (h2 x hx)
/-- The first example of the chapter. -/
theorem ex_split {N : Nat → Nat} {D : Nat} {z : Q3} {k : Nat} (hz : Val z ((1 : Int) : Rat) k) (h : Com [z, z, z] 3 N D) :
    apS N 3 ≠ 0 ∧ resA (fun i => 10 * N i) (apS N 3) 3 0 = 4 ∧ resA (fun i => 10 * N i) (apS N 3) 3 1 = 3 ∧ resA (fun i => 10 * N i) (apS N 3) 3 2 = 3 := by
  have e1 : ((1 : Int) : Rat) = sq false 1 1 := by decide
  have h0 : ∀ j, j < 3 → N j = D := fun j hj => by
    have h1 := h.eq j hj
    have h2 : ratOf ([z, z, z].getD j q0) = sq false 1 1 := by
      rw [← e1, ← hz.num.rat]
      rcases (by omega : j = 0 ∨ j = 1 ∨ j = 2) with rfl | rfl | rfl <;> rfl
    rw [h2] at h1
    have := sq_cross (by omega) h.pos h1
    omega
  have hs : apS N 3 = 3 * D := by
    rw [apS_congr (g := fun _ => D) h0]
    simp only [apS]; omega
  have hD := h.pos
  have hr : ∀ j, j < 3 → resA (fun i => 10 * N i) (apS N 3) 3 j = resA (fun _ => 10) 3 3 j := fun j hj =>
    resA_same (by omega) (by omega) (fun i hi => by rw [h0 i hi, hs]; omega) hj
  refine ⟨by omega, ?_, ?_, ?_⟩
  · rw [hr 0 (by omega)]; decide
  · rw [hr 1 (by omega)]; decide
  · rw [hr 2 (by omega)]; decide
/-- The second example of the chapter. -/
theorem ex_half {N : Nat → Nat} {D : Nat} {z : Q3} {k : Nat} (hz : Val z (sq false 1 2) k) (h : Com [z, z] 2 N D) :
    okS (apS N 2) D = true ∧ resA N D 2 0 = 1 ∧ resA N D 2 1 = 0 := by
  have h0 : ∀ j, j < 2 → N j * 2 = 1 * D := fun j hj => by
    have h1 := h.eq j hj
    have h2 : ratOf ([z, z].getD j q0) = sq false 1 2 := by
      rw [← hz.num.rat]
      rcases (by omega : j = 0 ∨ j = 1) with rfl | rfl <;> rfl
    rw [h2] at h1
    have := sq_cross (by omega) h.pos h1
    omega
  refine ⟨?_, ?_, ?_⟩
  · rw [okS_same (N := N) (N' := fun _ => 1) (D' := 2) h.pos (by omega) h0]; decide
  · rw [resA_same (N := N) (N' := fun _ => 1) (D' := 2) h.pos (by omega) h0 (by omega)]; decide
  · rw [resA_same (N := N) (N' := fun _ => 1) (D' := 2) h.pos (by omega) h0 (by omega)]; decide
theorem halfR : 0 ≤ sq (fsg 1 2) (1 : Int).natAbs (2 : Int).natAbs ∧ sq (fsg 1 2) (1 : Int).natAbs (2 : Int).natAbs = sq false 1 2 := by decide +kernel

set_option maxRecDepth 20000 in
set_option maxHeartbeats 4000000 in
theorem awake4_any (w : World) : Calls Try.prog 8 #[] w fun e w' => e = .returned (.bool true) ∧ Chg [] w w' := by
  have hch : Chg [] w w := Chg.refl _ _
  go_enter Try.func8, Try.ntmps8
  go_wp2_with fail
  refine (IntV 1 _ (by omega) (by omega)).mono ?_
  rintro e w1 ⟨z1, rfl, h1, c1⟩
  have H1 := Lib.hid h1
  replace hch := hch.then c1
  have b1 := Blk3.alloc w1 (.bool z1.neg) (.string z1.num) (.string z1.den) 38
  have c2 : Chg [] w1 (w1.alloc (.cells #[.bool z1.neg, .string z1.num, .string z1.den] 38)) := (Chg.refl _ _).alloc _
  replace hch := hch.then c2
  clear c1 h1 c2
  go_wp2_with fail
  refine (Fraction_any 1 2 _ (by omega) (by omega) (by omega) (by omega) (by omega)).mono ?_
  rintro e w2 ⟨z2, rfl, h2, c1⟩
  rw [halfR.2] at h2
  have H2 : Hid (Val z2 (sq false 1 2) 8) := Lib.hid ⟨h2, by rw [← halfR.2]; exact Bd_sq (by omega) (by omega) (by omega)⟩
  replace hch := hch.then c1
  replace b1 := b1.keep0 c1
  have b2 := Blk3.alloc w2 (.bool z2.neg) (.string z2.num) (.string z2.den) 38
  have c2 : Chg [] w2 (w2.alloc (.cells #[.bool z2.neg, .string z2.num, .string z2.den] 38)) := (Chg.refl _ _).alloc _
  replace hch := hch.then c2
  replace b1 := b1.keep0 c2
  clear c1 h2 c2
  have n1 : ∀ x ∈ [z1, z1, z1], 0 ≤ ratOf x := fun x hx => by
    obtain rfl : x = z1 := by simp at hx; exact hx
    rw [H1.out.num.rat]; decide
  have n2 : ∀ x ∈ [z2, z2], 0 ≤ ratOf x := fun x hx => by
    obtain rfl : x = z2 := by simp at hx; exact hx
    rw [H2.out.num.rat, ← halfR.2]; exact halfR.1
  have HC1 := Lib.hid (chkA_pos (xs := [z1, z1, z1]) (by simp) n1)
  have HC2 := Lib.hid (chkA_pos (xs := [z2, z2]) (by simp) n2)
  clear n1 n2
  have b1c0 := b1.c0
  have b1c1 := b1.c1
  have b1c2 := b1.c2
  have b1f0 := b1.f0
  have b1f1 := b1.f1
  have b1f2 := b1.f2
  have b1l := b1.lt
  go_wp2_with fail
  clear b1c0 b1c1 b1c2 b1f0 b1f1 b1f2 b1l
  have hx1 := rds_three (w2.alloc (.cells #[.bool z2.neg, .string z2.num, .string z2.den] 38)) z1 z1 z1
  rw [World.size_alloc] at hx1
  have f1 : ∀ x ∈ [z1, z1, z1], fits x 8 := fun x hx => by
    obtain rfl : x = z1 := by simp at hx; exact hx
    exact H1.out.num.fit
  have f2 : ∀ x ∈ [z2, z2], fits x 8 := fun x hx => by
    obtain rfl : x = z2 := by simp at hx; exact hx
    exact H2.out.num.fit
  have F2 := Lib.hid f2
  clear f2
  refine (split_any 10 [z1, z1, z1] 3 8 (some ⟨w2.heap.size + 1, 0, none⟩) 3 _ (by omega) rfl (by omega) (by omega) (by omega) f1 hx1).mono ?_
  intro e w3 hp
  obtain ⟨N, D, hcom, _, hpg⟩ := hp.com HC1.out (by omega)
  obtain ⟨hs0, r0, r1, r2⟩ := ex_split H1.out hcom
  obtain ⟨h3, rfl, hh3, hf3⟩ := hpg hs0
  have a0 := hf3.cell 0 (by omega)
  have a1 := hf3.cell 1 (by omega)
  have a2 := hf3.cell 2 (by omega)
  rw [show resA (fun i => Int.toNat 10 * N i) (apS N 3) 3 0 = 4 from r0] at a0
  rw [show resA (fun i => Int.toNat 10 * N i) (apS N 3) 3 1 = 3 from r1] at a1
  rw [show resA (fun i => Int.toNat 10 * N i) (apS N 3) 3 2 = 3 from r2] at a2
  have k0 : C1 w3 h3 0 (.int .i64 4) := ⟨a0, hf3.lt⟩
  have k1 : C1 w3 h3 1 (.int .i64 3) := ⟨a1, hf3.lt⟩
  have k2 : C1 w3 h3 2 (.int .i64 3) := ⟨a2, hf3.lt⟩
  have c3 := ((Chg.refl [] _).alloc (.cells #[.bool z1.neg, .string z1.num, .string z1.den, .bool z1.neg, .string z1.num, .string z1.den, .bool z1.neg, .string z1.num, .string z1.den] 38)).then hp.ch
  replace hch := hch.then c3
  replace b2 := b2.keep0 c3
  clear hp hpg hcom hs0 r0 r1 r2 hf3 a0 a1 a2 hx1 f1 c3 hh3 b1 HC1
  have b2c0 := b2.c0
  have b2c1 := b2.c1
  have b2c2 := b2.c2
  have b2f0 := b2.f0
  have b2f1 := b2.f1
  have b2f2 := b2.f2
  have b2l := b2.lt
  go_wp2_with fail
  clear b2c0 b2c1 b2c2 b2f0 b2f1 b2f2 b2l
  have hx2 := rds_two w3 z2 z2
  refine (largest_any [z2, z2] 2 8 (some ⟨w3.heap.size, 0, none⟩) 2 _ rfl (by omega) (by omega) (by omega) F2.out hx2).mono ?_
  intro e w4 hp
  obtain ⟨N2, D2, hcom, _, hpg⟩ := hp.com HC2.out
  obtain ⟨hs0, r0, r1⟩ := ex_half H2.out hcom
  obtain ⟨h4, rfl, hh4, hf4⟩ := hpg hs0
  have a0 := hf4.cell 0 (by omega)
  have a1 := hf4.cell 1 (by omega)
  rw [r0] at a0
  rw [r1] at a1
  have k3 : C1 w4 h4 0 (.int .i64 1) := ⟨a0, hf4.lt⟩
  have k4 : C1 w4 h4 1 (.int .i64 0) := ⟨a1, hf4.lt⟩
  have c3 := ((Chg.refl [] w3).alloc (.cells #[.bool z2.neg, .string z2.num, .string z2.den, .bool z2.neg, .string z2.num, .string z2.den] 38)).then hp.ch
  replace hch := hch.then c3
  replace k0 := k0.keep0 c3
  replace k1 := k1.keep0 c3
  replace k2 := k2.keep0 c3
  clear hp hpg hcom hs0 r0 r1 hf4 a0 a1 hx2 c3 hh4 b2 HC2 F2
  have m0 := k0.c0
  have m1 := k1.c0
  have m2 := k2.c0
  have m3 := k3.c0
  have m4 := k4.c0
  go_wp2_with fail
  go_ret
  exact ⟨rfl, hch⟩
end Go.Proofs.Ytdlejpaaoinokaa
