/-
  The law NaturalRing: its walk.
-/
import Derived.Test.YtnemodboceenfaaDoorW17
namespace Go.Proofs.YtnemodboceenfaaDoor
open Go.RowKit Nd

theorem few3 {a b c : ByteArray} (h : fewB [a, b, c] = true) : a.size ≤ 60 ∧ b.size ≤ 60 ∧ c.size ≤ 60 := by
  simp [fewB] at h; exact h

/-- A number below 256^k takes at most k bytes: the sizes of results. -/
theorem add_size {s : ByteArray} {x y k : Nat} (h : Is s (x + y)) (hx : x < 256 ^ k) (hy : y < 256 ^ k) : s.size ≤ k + 1 :=
  Is_size h (k + 1) (by rw [Nat.pow_succ]; omega)
theorem mul_size {s : ByteArray} {x y k l : Nat} (h : Is s (x * y)) (hx : x < 256 ^ k) (hy : y < 256 ^ l) : s.size ≤ k + l := by
  refine Is_size h (k + l) ?_
  rw [Nat.pow_add]
  exact Nat.lt_of_le_of_lt (Nat.mul_le_mul_left x (Nat.le_of_lt hy)) (Nat.mul_lt_mul_of_pos_right hx (Nat.pow_pos (by omega)))
theorem val_lt_of {s : ByteArray} {k : Nat} (h : s.size ≤ k) : val s < 256 ^ k := Nat.lt_of_lt_of_le (val_lt s) (Nat.pow_le_pow_right (by omega) h)

set_option maxHeartbeats 1000000 in
theorem ring_any (a b c : ByteArray) (w : World) :
    Calls Tryd.prog 13 #[.string a, .string b, .string c] w fun e w' => e = .returned (.bool true) ∧ Chg [] w w' := by
  have hch0 : Chg [] w (w.alloc (.cells #[.string a, .string b, .string c] 9)) := (Chg.refl [] w).alloc _
  have hcs := Lib.hid (cell_alloc_strs w #[.string a, .string b, .string c] 9 [a, b, c] rfl)
  by_cases hf : fewB [a, b, c] = true
  · obtain ⟨h1, h2, h3⟩ := few3 hf
    have HF := Lib.hid hf
    clear hf
    have va := val_lt_of h1
    have vb := val_lt_of h2
    have vc := val_lt_of h3
    obtain ⟨x, HX⟩ := name_it (val a)
    obtain ⟨y, HY⟩ := name_it (val b)
    obtain ⟨z, HZ⟩ := name_it (val c)
    rw [HX.out] at va
    rw [HY.out] at vb
    rw [HZ.out] at vc
    have VA := Lib.hid va
    have VB := Lib.hid vb
    have VC := Lib.hid vc
    clear va vb vc
    go_enter Tryd.func13, Tryd.ntmps13
    go_wp2_with fail
    refine (few_any w.heap.size 3 [a, b, c] _ (by simp) hcs.out).mono ?_
    rintro e w1 ⟨rfl, rfl⟩
    rw [HF.out]
    obtain ⟨w1, HW⟩ := name_it (w.alloc (.cells #[.string a, .string b, .string c] 9))
    rw [HW.out] at hch0 ⊢
    go_wp2_with fail
    refine (add_any a b _ (by omega) (by omega)).mono ?_
    rintro e w2 ⟨s1, rfl, h1, c1⟩
    rw [HX.out, HY.out] at h1
    have z1 := add_size h1 VA.out VB.out
    have H1 := Lib.hid h1
    have hch1 := hch0.then c1
    clear h1 c1 hch0
    go_wp2_with fail
    refine (add_any s1 c _ (by omega) (by omega)).mono ?_
    rintro e w3 ⟨s2, rfl, h2, c2⟩
    rw [Is_val H1.out, HZ.out] at h2
    have H2 := Lib.hid h2
    have hch2 := hch1.then c2
    clear h2 c2 hch1
    go_wp2_with fail
    refine (add_any c b _ (by omega) (by omega)).mono ?_
    rintro e w4 ⟨s3, rfl, h3, c3⟩
    rw [HZ.out, HY.out] at h3
    have z3 := add_size h3 VC.out VB.out
    have H3 := Lib.hid h3
    have hch3 := hch2.then c3
    clear h3 c3 hch2
    go_wp2_with fail
    refine (add_any a s3 _ (by omega) (by omega)).mono ?_
    rintro e w5 ⟨s4, rfl, h4, c4⟩
    rw [HX.out, Is_val H3.out] at h4
    have H4 := Lib.hid h4
    have hch4 := hch3.then c4
    clear h4 c4 hch3
    obtain rfl : s4 = s2 := Is_unique H4.out (by have := H2.out; rwa [show x + y + z = x + (z + y) by omega] at this)
    go_wp2_with fail
    refine (multiply_any a b _ (by omega) (by omega)).mono ?_
    rintro e w6 ⟨s5, rfl, h5, c5⟩
    rw [HX.out, HY.out] at h5
    have z5 := mul_size h5 VA.out VB.out
    have H5 := Lib.hid h5
    have hch5 := hch4.then c5
    clear h5 c5 hch4
    go_wp2_with fail
    refine (multiply_any s5 c _ (by omega) (by omega)).mono ?_
    rintro e w7 ⟨s6, rfl, h6, c6⟩
    rw [Is_val H5.out, HZ.out] at h6
    have H6 := Lib.hid h6
    have hch6 := hch5.then c6
    clear h6 c6 hch5
    go_wp2_with fail
    refine (multiply_any c a _ (by omega) (by omega)).mono ?_
    rintro e w8 ⟨s7, rfl, h7, c7⟩
    rw [HZ.out, HX.out] at h7
    have z7 := mul_size h7 VC.out VA.out
    have H7 := Lib.hid h7
    have hch7 := hch6.then c7
    clear h7 c7 hch6
    go_wp2_with fail
    refine (multiply_any b s7 _ (by omega) (by omega)).mono ?_
    rintro e w9 ⟨s8, rfl, h8, c8⟩
    rw [HY.out, Is_val H7.out] at h8
    have H8 := Lib.hid h8
    have hch8 := hch7.then c8
    clear h8 c8 hch7
    obtain rfl : s8 = s6 := Is_unique H8.out (by have := H6.out; rwa [show x * y * z = y * (z * x) by rw [Nat.mul_comm x y, Nat.mul_assoc, Nat.mul_comm x z]] at this)
    go_wp2_with fail
    refine (add_any b c _ (by omega) (by omega)).mono ?_
    rintro e w10 ⟨s9, rfl, h9, c9⟩
    rw [HY.out, HZ.out] at h9
    have z9 := add_size h9 VB.out VC.out
    have H9 := Lib.hid h9
    have hch9 := hch8.then c9
    clear h9 c9 hch8
    go_wp2_with fail
    refine (multiply_any a s9 _ (by omega) (by omega)).mono ?_
    rintro e w11 ⟨s10, rfl, h10, c10⟩
    rw [HX.out, Is_val H9.out] at h10
    have H10 := Lib.hid h10
    have hch10 := hch9.then c10
    clear h10 c10 hch9
    go_wp2_with fail
    refine (multiply_any a b _ (by omega) (by omega)).mono ?_
    rintro e w12 ⟨s11, rfl, h11, c11⟩
    rw [HX.out, HY.out] at h11
    have z11 := mul_size h11 VA.out VB.out
    have H11 := Lib.hid h11
    have hch11 := hch10.then c11
    clear h11 c11 hch10
    go_wp2_with fail
    refine (multiply_any a c _ (by omega) (by omega)).mono ?_
    rintro e w13 ⟨s12, rfl, h12, c12⟩
    rw [HX.out, HZ.out] at h12
    have z12 := mul_size h12 VA.out VC.out
    have H12 := Lib.hid h12
    have hch12 := hch11.then c12
    clear h12 c12 hch11
    go_wp2_with fail
    refine (add_any s11 s12 _ (by omega) (by omega)).mono ?_
    rintro e w14 ⟨s13, rfl, h13, c13⟩
    rw [Is_val H11.out, Is_val H12.out] at h13
    have H13 := Lib.hid h13
    have hch13 := hch12.then c13
    clear h13 c13 hch12
    obtain rfl : s13 = s10 := Is_unique H13.out (by have := H10.out; rwa [Nat.mul_add] at this)
    go_wp2_with fail
    refine (awake_any _).mono ?_
    rintro e w15 ⟨rfl, c14⟩
    have hch := hch13.then c14
    clear c14 hch13
    go_wp2_with fail
    go_ret
    exact ⟨rfl, hch⟩
  · have HF : Hid (fewB [a, b, c] = false) := by show _ = _; simpa using hf
    clear hf
    go_enter Tryd.func13, Tryd.ntmps13
    go_wp2_with fail
    refine (few_any w.heap.size 3 [a, b, c] _ (by simp) hcs.out).mono ?_
    rintro e w1 ⟨rfl, rfl⟩
    rw [HF.out]
    go_wp2_with fail
    refine (awake_any _).mono ?_
    rintro e w2 ⟨rfl, c2⟩
    have hch := hch0.then c2
    clear c2
    go_wp2_with fail
    go_ret
    exact ⟨rfl, hch⟩

end Go.Proofs.YtnemodboceenfaaDoor
