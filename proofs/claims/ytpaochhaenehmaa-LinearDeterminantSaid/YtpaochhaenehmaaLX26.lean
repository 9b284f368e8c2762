/-
  Determinant.
-/
import Derived.Test.YtpaochhaenehmaaLX25
namespace Go.Proofs.Ytpaochhaenehmaa
open Go.RowKit Nd

theorem prodT_prodF (t : Nat → Nat) : ∀ n, prodT t n = prodF (fun i => ((t i : Int) : Rat)) n
  | 0 => rfl
  | n + 1 => by rw [prodT, prodF, prodT_prodF t n]
theorem prodF_ne {p : Nat → Rat} : ∀ {n : Nat}, (∀ i, i < n → p i ≠ 0) → prodF p n ≠ 0
  | 0, _ => by rw [prodF]; decide
  | n + 1, h => by
    rw [prodF]
    intro h0
    rcases Rat.mul_eq_zero.1 h0 with h1 | h1
    · exact prodF_ne (fun i hi => h i (by omega)) h1
    · exact h n (by omega) h1
theorem detF_scale {E Q : Nat → Nat → Rat} {φ : Nat → Rat} {n : Nat} (h0 : ∀ i, i < n → φ i ≠ 0 ∧ ∀ j, j < n → E i j = φ i * Q i j) : detF E n = prodF φ n * detF Q n := by
  obtain ⟨ψ, _, h2, h3, h4, h5⟩ := gau_scale h0 n (Nat.le_refl _)
  unfold detF
  by_cases hF : Full E n n
  · rw [if_pos hF, if_pos (h5.1 hF)]
    unfold detV
    rw [h4, h3 hF, h2]
    split <;> grind
  · rw [if_neg hF, if_neg (fun h => hF (h5.2 h))]; grind
theorem detF_div {E Q : Nat → Nat → Rat} {t : Nat → Nat} {n : Nat} (h0 : ∀ i, i < n → 0 < t i ∧ ∀ j, j < n → E i j = ((t i : Int) : Rat) * Q i j) : prodT t n ≠ 0 ∧ detF E n / prodT t n = detF Q n := by
  have h1 : ∀ i, i < n → ((t i : Int) : Rat) ≠ 0 := fun i hi h => by
    have := (h0 i hi).1
    have h2 : ((t i : Int) : Rat) = ((0 : Int) : Rat) := by rw [h]; rfl
    have h3 : (t i : Int) = 0 := by exact_mod_cast h2
    omega
  have hne : prodT t n ≠ 0 := by rw [prodT_prodF]; exact prodF_ne h1
  refine ⟨hne, ?_⟩
  rw [detF_scale (φ := fun i => ((t i : Int) : Rat)) (fun i hi => ⟨h1 i hi, (h0 i hi).2⟩), ← prodT_prodF, Rat.div_def, Rat.mul_comm (prodT t n), Rat.mul_assoc, Rat.mul_inv_cancel _ hne, Rat.mul_one]

set_option maxRecDepth 20000 in
set_option maxHeartbeats 8000000 in
theorem Determinant_ok (M : List (List Q3)) (A : Option Addr) (cap : Nat) (k : Nat) (w : World) (hx : Mtx w A M) (hs : squareE M = 0) (hn5 : M.length ≤ 5) (hk : 1 ≤ k) (hk2 : k ≤ 3000) (hfit : ∀ i, i < M.length → ∀ j, j < (M.getD 0 []).length → fits ((M.getD i []).getD j q0) k) :
    Calls Try.prog 8 #[.slice A M.length cap] w fun e w' => ∃ z, e = .returned (.tuple #[.agg #[.bool z.neg, .string z.num, .string z.den], .int .i64 0]) ∧ Val z (detF (matQ M) M.length) (KK (k + (1 + M.length * k)) M.length + (8 + M.length * (1 + M.length * k))) ∧ Chg [] w w' := by
  have SQ := squareE_ok hs
  obtain ⟨s0, s1, s2, s3, s4⟩ := shapeE_ok SQ.1
  have hmm := SQ.2
  have HS0 := Lib.hid hs
  have HX := Lib.hid hx
  obtain ⟨Q, HQ⟩ := name_it (matQ M)
  rw [HQ.out]
  have HQV : Hid (∀ i j, ratOf ((M.getD i []).getD j q0) = Q i j) := Lib.hid fun i j => by rw [← HQ.out]; rfl
  obtain ⟨n, HN⟩ := name_it M.length
  rw [← hmm] at s2 hfit
  rw [HN.out] at s0 s3 s2 hfit hn5
  have HROW := Lib.hid s2
  have HFIT := Lib.hid hfit
  rw [HN.out]
  have hnk : n * k ≤ 15000 := Nat.mul_le_mul (show n ≤ 5 by omega) (show k ≤ 3000 by omega)
  obtain ⟨K1, HK1⟩ := name_it (k + (1 + n * k))
  have hK1 : K1 ≤ 20000 := by rw [← HK1.out]; omega
  have hK1p : 1 ≤ K1 := by rw [← HK1.out]; omega
  have hKK : KK K1 n ≤ 700000 := by
    unfold KK
    have h8 : (K1 + 1) * 2 ^ n ≤ 20001 * 2 ^ 5 := Nat.mul_le_mul (by omega) (Nat.pow_le_pow_right (by omega) hn5)
    omega
  have hB8 : 8 + (n + 1) * (1 + n * k) ≤ 4294967296 := by
    have : (n + 1) * (1 + n * k) ≤ 6 * 15001 := Nat.mul_le_mul (by omega) (by omega)
    omega
  have hB9 : 8 + n * (1 + n * k) ≤ 200000 := by
    have : n * (1 + n * k) ≤ 5 * 15001 := Nat.mul_le_mul (by omega) (by omega)
    omega
  have HB8 := Lib.hid hB8
  obtain ⟨KF2, HKF⟩ := name_it (8 + n * (1 + n * k))
  rw [HKF.out] at hB9
  obtain ⟨K2, HK2⟩ := name_it (KK K1 n)
  have HK2b := hKK
  rw [HK2.out] at HK2b
  have hb1 : Hid (KK K1 n ≤ 4294967296) := Lib.hid (by omega)
  rw [HK1.out, HKF.out, HK2.out]
  have b1 := Blk3.alloc w (.bool false) (.string ⟨#[]⟩) (.string ⟨#[]⟩) 26
  have hch : Chg [] w (w.alloc (.cells #[.bool false, .string ⟨#[]⟩, .string ⟨#[]⟩] 26)) := (Chg.refl _ _).alloc _
  have hgl := b1.lt
  clear hx hs s2 hfit SQ hmm hB8 hKK s1 s4
  go_enter Try.func8, Try.ntmps8
  go_wp2_with fail
  rw [← HN.out]
  refine (checkSquare_any M A cap _ (by rw [HN.out]; omega) (HX.out.keep0 hch)).mono ?_
  rintro e w1 ⟨rfl, c1⟩
  rw [HS0.out, HN.out]
  replace b1 := b1.keep c1 (by simp)
  replace hch := hch.then c1
  clear c1
  go_wp2_with fail
  refine (integral_any M n n k A cap _ HN.out HROW.out HFIT.out hk (by omega) (by omega) HB8.out (by omega) (HX.out.keep0 hch)).mono ?_
  rintro e w3 ⟨g, M2, E, t, z, rfl, hg, hM2, hV2, ht, hz, c1⟩
  have HDV := Lib.hid (detF_div (E := ratI E) (Q := Q) (t := t) (n := n) (fun i hi => ⟨(ht i hi).1, fun j hj => by rw [(ht i hi).2 j hj, HQV.out]⟩))
  rw [HK1.out] at hV2
  rw [HKF.out] at hz
  have HV2 := Lib.hid hV2
  have HZ := Lib.hid hz
  have hgw : w.heap.size < g := by
    have := c1.size
    have := b1.lt
    omega
  replace b1 := b1.keep c1 (by simp)
  replace hch := hch.then c1
  have c2 : Chg [] w3 (w3.alloc (.cells #[.bool z.neg, .string z.num, .string z.den] 26)) := (Chg.refl _ _).alloc _
  have bz := Blk3.alloc w3 (.bool z.neg) (.string z.num) (.string z.den) 26
  replace b1 := b1.keep c2 (by simp)
  replace hch := hch.then c2
  have hM3 := hM2.keep0 c2
  have hgm := hM2.lt
  clear hV2 hz ht c1 c2 hM2
  obtain ⟨g6, HG6⟩ := name_it w3.heap.size
  rw [HG6.out] at bz hgm
  have hg6 := HG6.out
  obtain ⟨g1, HG1⟩ := name_it w.heap.size
  rw [HG1.out] at b1 hgw
  have hg1 := HG1.out
  have hgn6 : g6 ≠ g := by omega
  have hgn1 : g1 ≠ g := by omega
  go_wp2_with fail
  have hgws : w.heap.size ≤ g := by omega
  clear hg6 hg1
  obtain ⟨w4, HW4⟩ := name_it (w3.alloc (.cells #[.bool z.neg, .string z.num, .string z.den] 26))
  rw [HW4.out] at bz b1 hM3 hch ⊢
  have hgw4 : g < w4.heap.size := hM3.lt
  have hg14 : g1 < w4.heap.size := b1.lt
  go_cut [7] (fun pv wx => ∃ (g7 : Nat) (x : Q3), pv = .pointer (some ⟨g7, 0, none⟩) ∧ Val x (detF Q n) (K2 + KF2) ∧ Blk3 wx g7 (.bool x.neg) (.string x.num) (.string x.den) ∧ Blk3 wx g1 (.bool false) (.string ⟨#[]⟩) (.string ⟨#[]⟩) ∧ g1 < g7 ∧ Chg [] w wx)
  case first =>
    have bw := bz
    have bwc0 := bw.c0
    have bwc1 := bw.c1
    have bwc2 := bw.c2
    have bwf0 := bw.f0
    have bwf1 := bw.f1
    have bwf2 := bw.f2
    have bwl := bw.lt
    have c8 : Chg [] w4 w4.drew := (Chg.refl _ _).drew
    replace bz := bz.keep c8 (by simp)
    replace b1 := b1.keep c8 (by simp)
    replace hM3 := hM3.keep0 c8
    replace hch := hch.then c8
    clear c8
    have HM3 := Lib.hid hM3
    have HBZ := Lib.hid bz
    have HB1 := Lib.hid b1
    clear hM3
    have bzl4 : g6 < w4.heap.size := HBZ.out.lt
    have bzn4 : g6 ≠ w4.heap.size := by omega
    have bzc0 := bz.c0
    have bzc1 := bz.c1
    have bzc2 := bz.c2
    have bzf0 := bz.f0
    have bzf1 := bz.f1
    have bzf2 := bz.f2
    have bzl := bz.lt
    go_region_with (first
        | (go_at_call 26
           (with_reducible refine (intDet_any M2 E (ratI E) n K1 g n _ rfl HV2.out hK1p (by omega) hn5 hb1.out (by first | exact HM3.out | exact HM3.out.keep0 ((Chg.refl [] _).alloc _))).mono ?_)
           rintro e w6 ⟨y, rfl, hy, c6⟩
           rw [HK2.out] at hy
           have HY := Lib.hid hy
           clear bzc0 bzc1 bzc2 bzf0 bzf1 bzf2 bzl
           have c6d : Chg [g] w4.drew w6 := by first | exact c6 | exact ((Chg.refl [g] _).alloc _).same c6
           try (have b7 : Blk3 w6 w4.heap.size (.bool false) (.string ⟨#[]⟩) (.string ⟨#[]⟩) := (Blk3.alloc w4.drew (.bool false) (.string ⟨#[]⟩) (.string ⟨#[]⟩) 26).keep c6 (by simp; omega))
           replace bz := HBZ.out.keep c6d (by simp; exact hgn6)
           replace b1 := HB1.out.keep c6d (by simp; exact hgn1)
           replace hch := hch.fresh c6d hgws
           have hsz6 : w4.heap.size ≤ w6.heap.size := c6d.size
           have bzn6 : g6 ≠ w6.heap.size := by have := bz.lt; omega
           clear hy c6 c6d
           have bzc0 := bz.c0
           have bzc1 := bz.c1
           have bzc2 := bz.c2
           have bzf0 := bz.f0
           have bzf1 := bz.f1
           have bzf2 := bz.f2
           have bzl := bz.lt
           skip)
        | (go_at_call 25
           (with_reducible refine (DivideN y z (detF (ratI E) n) (prodT t n) K2 KF2 _ HY.out.num HZ.out.num HDV.out.1 (by omega)).mono ?_)
           rintro e w7 ⟨x, rfl, hx, c7⟩
           rw [HDV.out.2] at hx
           have HXV := Lib.hid hx
           clear bzc0 bzc1 bzc2 bzf0 bzf1 bzf2 bzl
           have c7d : Chg [] w6 w7 := by first | exact c7 | exact ((Chg.refl [] _).alloc _).then c7
           first | (replace b7 := b7.keep c7 (by simp)) | (have b7 := (Blk3.alloc w6 (.bool false) (.string ⟨#[]⟩) (.string ⟨#[]⟩) 26).keep c7 (by simp)) | (have b7 := Blk3.alloc w7 (.bool x.neg) (.string x.num) (.string x.den) 26)
           replace bz := bz.keep c7d (by simp)
           replace b1 := b1.keep c7d (by simp)
           replace hch := hch.then c7d
           have hsz7 : w6.heap.size ≤ w7.heap.size := c7d.size
           clear hx c7 c7d
           have bzc0 := bz.c0
           have bzc1 := bz.c1
           have bzc2 := bz.c2
           have bzf0 := bz.f0
           have bzf1 := bz.f1
           have bzf2 := bz.f2
           have bzl := bz.lt
           have b7c0 := b7.c0
           have b7c1 := b7.c1
           have b7c2 := b7.c2
           have b7f0 := b7.f0
           have b7f1 := b7.f1
           have b7f2 := b7.f2
           have b7l := b7.lt
           skip))
    all_goals
      clear bwc0 bwc1 bwc2 bwf0 bwf1 bwf2 bwl
      have hgq1 := HG1.out
      go_wp2_with fail
      go_meet
      first
        | exact ⟨_, x, rfl, HXV.out, b7, b1.keep ((Chg.refl [] w7).alloc _) (by simp), by omega, hch.alloc _⟩
        | exact ⟨_, x, rfl, HXV.out, b7.store _ _ _, b1.keep ((Chg.refl [w6.heap.size] w7).store3 (g := w6.heap.size) (.inl (by simp)) _ _ _) (by simp; omega), by omega, hch.store3 (g := w6.heap.size) (.inr (by omega)) _ _ _⟩
        | exact ⟨_, x, rfl, HXV.out, b7.store _ _ _, b1.keep ((Chg.refl [w4.heap.size] w7).store3 (g := w4.heap.size) (.inl (by simp)) _ _ _) (by simp; omega), by omega, hch.store3 (g := w4.heap.size) (.inr (by omega)) _ _ _⟩
  case rest =>
    obtain ⟨g7, x, rfl, hxv, b7, b1, h17, hch⟩ := hcut
    have HXV := Lib.hid hxv
    have S := b1.store (.bool x.neg) (.string x.num) (.string x.den)
    have hchS := hch.store3 (g := g1) (.inr (by rw [HG1.out]; exact Nat.le_refl _)) (.bool x.neg) (.string x.num) (.string x.den)
    have hne7 : g1 ≠ g7 := by omega
    clear hxv
    have b7c0 := b7.c0
    have b7c1 := b7.c1
    have b7c2 := b7.c2
    have b7f0 := b7.f0
    have b7f1 := b7.f1
    have b7f2 := b7.f2
    have b7l := b7.lt
    have b1c0 := b1.c0
    have b1c1 := b1.c1
    have b1c2 := b1.c2
    have b1f0 := b1.f0
    have b1f1 := b1.f1
    have b1f2 := b1.f2
    have b1l := b1.lt
    go_wp2_with fail
    exact bodyPost_ret (v := .tuple #[.agg #[.bool x.neg, .string x.num, .string x.den], .int .i64 0]) (by simp [results, Try.results8, go_sem, S.c0, S.c1, S.c2]) rfl ⟨x, rfl, HXV.out, hchS⟩
end Go.Proofs.Ytpaochhaenehmaa
