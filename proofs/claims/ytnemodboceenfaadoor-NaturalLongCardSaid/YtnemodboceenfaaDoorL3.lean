/-
  The laws NaturalBack and NaturalDivisors: their walks.
-/
import Derived.Test.YtnemodboceenfaaDoorL2
namespace Go.Proofs.YtnemodboceenfaaDoor
open Go.RowKit Nd

theorem dec_size {t : ByteArray} {n : Nat} (h : Dec t.data.toList n) (k : Nat) (hk : 1 ≤ k) (hn : n < 10 ^ k) : t.size ≤ k := by
  apply Classical.byContradiction
  intro hlt
  have hsz : t.data.toList.length = t.size := by simp
  have hne : t.data.toList ≠ [48] := by intro he; rw [he] at hsz; simp at hsz; omega
  have h1 := canD_noz h.1 hne
  have h2 := lv_ge (B := 10) _ h1 (by intro he; have : t.data.toList = [] := by
                                        have h5 := congrArg List.length he
                                        simp [dgs] at h5
                                        exact List.eq_nil_of_length_eq_zero (by simp [h5])
                                      rw [this] at hsz; simp at hsz; omega)
  have h3 : lv 10 (dgs t.data.toList).reverse = n := h.2
  have h4 : (dgs t.data.toList).reverse.length = t.size := by simp [dgs]
  rw [h3, h4] at h2
  have h5 : 10 ^ k ≤ 10 ^ (t.size - 1) := Nat.pow_le_pow_right (by omega) (by omega)
  omega

set_option maxHeartbeats 1000000 in
theorem back_any (a b : ByteArray) (w : World) :
    Calls Tryd.prog 16 #[.string a, .string b] w fun e w' => e = .returned (.bool true) ∧ Chg [] w w' := by
  have hch0 : Chg [] w (w.alloc (.cells #[.string a, .string b] 9)) := (Chg.refl [] w).alloc _
  have hcs := Lib.hid (cell_alloc_strs w #[.string a, .string b] 9 [a, b] rfl)
  by_cases hf : fewB [a, b] = true
  · obtain ⟨h1, h2⟩ := few2 hf
    have HF := Lib.hid hf
    clear hf
    have va := Lib.hid (val_lt_of h1)
    have vb := Lib.hid (val_lt_of h2)
    obtain ⟨x, HX⟩ := name_it (val a)
    obtain ⟨y, HY⟩ := name_it (val b)
    obtain ⟨p, HP⟩ := name_it (nrmB a)
    have hpx : Is p x := by rw [← HP.out, ← HX.out]; exact Is_nrmB a
    have HPX := Lib.hid hpx
    clear hpx
    go_enter Tryd.func16, Tryd.ntmps16
    go_wp2_with fail
    refine (few_any w.heap.size 2 [a, b] _ (by simp) hcs.out).mono ?_
    rintro e w1 ⟨rfl, rfl⟩
    rw [HF.out]
    obtain ⟨w1, HW⟩ := name_it (w.alloc (.cells #[.string a, .string b] 9))
    rw [HW.out] at hch0 ⊢
    go_wp2_with fail
    refine (format_any a w1 (by omega)).mono ?_
    rintro e w2 ⟨t, rfl, ht, c2⟩
    rw [HX.out] at ht
    have htl : t.size ≤ 2000 := by
      have h1 := dec_size ht
      have h2 := va.out
      rw [HX.out] at h2
      exact h1 2000 (by omega) (Nat.lt_of_lt_of_le h2 (by decide +kernel))
    have HT := Lib.hid ht
    have hch1 := hch0.then c2
    clear ht c2 hch0
    go_wp2_with fail
    refine (parse_good t w2 HT.out.1 htl).mono ?_
    rintro e w3 ⟨n, rfl, hn, c3⟩
    rw [HT.out.2] at hn
    obtain rfl : n = p := Is_unique hn HPX.out
    have hch2 := hch1.then c3
    clear hn c3 hch1
    go_wp2_with fail
    refine (add_any a b _ (by omega) (by omega)).mono ?_
    rintro e w4 ⟨s, rfl, hs, c4⟩
    rw [HX.out, HY.out] at hs
    have zs : s.size ≤ 60 + 1 := add_size hs (by rw [← HX.out]; exact va.out) (by rw [← HY.out]; exact vb.out)
    have hvs : val b ≤ val s := by rw [Is_val hs, HY.out]; omega
    have HVS := Lib.hid hvs
    have HS := Lib.hid hs
    have hch3 := hch2.then c4
    clear hs hvs c4 hch2
    go_wp2_with fail
    refine (subtract_any s b _ (by omega) (by omega) HVS.out).mono ?_
    rintro e w5 ⟨d, rfl, hd, c5⟩
    rw [Is_val HS.out, HY.out, Nat.add_sub_cancel] at hd
    obtain rfl : d = n := Is_unique hd HPX.out
    have hch4 := hch3.then c5
    clear hd c5 hch3
    go_wp2_with fail
    refine (awake_any _).mono ?_
    rintro e w6 ⟨rfl, c6⟩
    have hch5 := hch4.then c6
    clear c6 hch4
    go_wp2_with fail
    refine (normalize_any a _ (by omega)).mono ?_
    rintro e w7 ⟨rfl, rfl⟩
    rw [HP.out]
    go_wp2_with fail
    refine (normalize_any a _ (by omega)).mono ?_
    rintro e w7 ⟨rfl, rfl⟩
    rw [HP.out]
    go_wp2_with fail
    go_ret
    exact ⟨rfl, hch5⟩
  · have HF : Hid (fewB [a, b] = false) := by show _ = _; simpa using hf
    clear hf
    go_enter Tryd.func16, Tryd.ntmps16
    go_wp2_with fail
    refine (few_any w.heap.size 2 [a, b] _ (by simp) hcs.out).mono ?_
    rintro e w1 ⟨rfl, rfl⟩
    rw [HF.out]
    go_wp2_with fail
    refine (awake_any _).mono ?_
    rintro e w2 ⟨rfl, c2⟩
    have hch := hch0.then c2
    clear c2
    go_wp2_with fail
    go_ret
    exact ⟨rfl, hch⟩

set_option maxHeartbeats 1000000 in
theorem divisors_any (a b c : ByteArray) (w : World) :
    Calls Tryd.prog 15 #[.string a, .string b, .string c] w fun e w' => e = .returned (.bool true) ∧ Chg [] w w' := by
  have hch0 : Chg [] w (w.alloc (.cells #[.string a, .string b, .string c] 9)) := (Chg.refl [] w).alloc _
  have hcs := Lib.hid (cell_alloc_strs w #[.string a, .string b, .string c] 9 [a, b, c] rfl)
  by_cases hf : fewB [a, b, c] = true
  · obtain ⟨h1, h2, h3⟩ := few3 hf
    have HF := Lib.hid hf
    clear hf
    have va := Lib.hid (val_lt_of h1)
    have vb := Lib.hid (val_lt_of h2)
    have vc := Lib.hid (val_lt_of h3)
    obtain ⟨x, HX⟩ := name_it (val a)
    obtain ⟨y, HY⟩ := name_it (val b)
    obtain ⟨z, HZ⟩ := name_it (val c)
    obtain ⟨g0, HG⟩ := name_it (Nat.gcd x y)
    have hgb : g0 < 256 ^ 60 := by
      have h1 := va.out
      have h2 := vb.out
      rw [HX.out] at h1
      rw [HY.out] at h2
      by_cases hx : x = 0
      · rw [← HG.out, hx, Nat.gcd_zero_left]; exact h2
      · exact Nat.lt_of_le_of_lt (by rw [← HG.out]; exact Nat.le_of_dvd (by omega) (Nat.gcd_dvd_left x y)) h1
    have HGB := Lib.hid hgb
    clear hgb
    have rest : ∀ (w : World) (g q r : ByteArray) (n : Nat), Is g n → Nat.gcd x y = n → True := fun _ _ _ _ _ _ _ => trivial
    clear rest
    by_cases hg0' : g0 = 0
    · have hg0 := Lib.hid hg0'
      clear hg0'
      go_enter Tryd.func15, Tryd.ntmps15
      go_wp2_with fail
      refine (few_any w.heap.size 3 [a, b, c] _ (by simp) hcs.out).mono ?_
      rintro e w1 ⟨rfl, rfl⟩
      rw [HF.out]
      obtain ⟨w1, HW⟩ := name_it (w.alloc (.cells #[.string a, .string b, .string c] 9))
      rw [HW.out] at hch0 ⊢
      go_wp2_with fail
      refine (GCD_any a b w1 (by omega) (by omega)).mono ?_
      rintro e w2 ⟨g, rfl, hg, c2⟩
      rw [HX.out, HY.out, HG.out] at hg
      have zg : g.size ≤ 60 := Is_size hg 60 HGB.out
      have HGG := Lib.hid hg
      have hch1 := hch0.then c2
      clear c2 hch0 hg
      go_wp2_with fail
      refine (Divide_zero a g _ (by omega) (by rw [Is_val HGG.out]; exact hg0.out)).mono ?_
      rintro e w3 ⟨rfl, c3⟩
      have hch2 := hch1.then c3
      clear c3 hch1
      go_wp2_with fail
      refine (Divide_zero b g _ (by omega) (by rw [Is_val HGG.out]; exact hg0.out)).mono ?_
      rintro e w3 ⟨rfl, c3⟩
      have hch3 := hch2.then c3
      clear c3 hch2
      go_wp2_with fail
      refine (awake_any _).mono ?_
      rintro e w5 ⟨rfl, c5⟩
      have hch4 := hch3.then c5
      clear c5 hch3
      go_wp2_with fail
      refine (multiply_any a c _ (by omega) (by omega)).mono ?_
      rintro e w6 ⟨s, rfl, hs, c6⟩
      rw [HX.out, HZ.out] at hs
      have zs : s.size ≤ 60 + 60 := mul_size hs (by rw [← HX.out]; exact va.out) (by rw [← HZ.out]; exact vc.out)
      have HS := Lib.hid hs
      have hch5 := hch4.then c6
      clear c6 hch4 hs
      go_wp2_with fail
      refine (multiply_any b c _ (by omega) (by omega)).mono ?_
      rintro e w7 ⟨t, rfl, ht, c7⟩
      rw [HY.out, HZ.out] at ht
      have zt : t.size ≤ 60 + 60 := mul_size ht (by rw [← HY.out]; exact vb.out) (by rw [← HZ.out]; exact vc.out)
      have HT := Lib.hid ht
      have hch6 := hch5.then c7
      clear c7 hch5 ht
      go_wp2_with fail
      refine (GCD_any s t _ (by omega) (by omega)).mono ?_
      rintro e w8 ⟨u, rfl, hu, c8⟩
      rw [Is_val HS.out, Is_val HT.out, Nat.gcd_mul_right, HG.out] at hu
      have HU := Lib.hid hu
      have hch7 := hch6.then c8
      clear c8 hch6 hu
      go_wp2_with fail
      refine (multiply_any g c _ (by omega) (by omega)).mono ?_
      rintro e w9 ⟨v, rfl, hv, c9⟩
      rw [Is_val HGG.out, HZ.out] at hv
      obtain rfl : v = u := Is_unique hv HU.out
      have hch8 := hch7.then c9
      clear c9 hch7 hv
      go_wp2_with fail
      refine (GCD_any b a _ (by omega) (by omega)).mono ?_
      rintro e w10 ⟨k, rfl, hk, c10⟩
      rw [HY.out, HX.out, Nat.gcd_comm, HG.out] at hk
      obtain rfl : k = g := Is_unique hk HGG.out
      have hch9 := hch8.then c10
      clear c10 hch8 hk
      go_wp2_with fail
      go_ret
      exact ⟨rfl, hch9⟩
    · have hg0 := Lib.hid hg0'
      clear hg0'
      go_enter Tryd.func15, Tryd.ntmps15
      go_wp2_with fail
      refine (few_any w.heap.size 3 [a, b, c] _ (by simp) hcs.out).mono ?_
      rintro e w1 ⟨rfl, rfl⟩
      rw [HF.out]
      obtain ⟨w1, HW⟩ := name_it (w.alloc (.cells #[.string a, .string b, .string c] 9))
      rw [HW.out] at hch0 ⊢
      go_wp2_with fail
      refine (GCD_any a b w1 (by omega) (by omega)).mono ?_
      rintro e w2 ⟨g, rfl, hg, c2⟩
      rw [HX.out, HY.out, HG.out] at hg
      have zg : g.size ≤ 60 := Is_size hg 60 HGB.out
      have HGG := Lib.hid hg
      have hch1 := hch0.then c2
      clear c2 hch0 hg
      go_wp2_with fail
      refine (Divide_any a g _ (by omega) (by omega) (by rw [Is_val HGG.out]; exact hg0.out)).mono ?_
      rintro e w3 ⟨qa, ra, rfl, _, hra, c3⟩
      rw [HX.out, Is_val HGG.out, Nat.mod_eq_zero_of_dvd (by rw [← HG.out]; exact Nat.gcd_dvd_left x y)] at hra
      obtain rfl : ra = ⟨#[]⟩ := Is_unique hra (Is_lit _ _ (by decide) (by simp [nolead]))
      have hch2 := hch1.then c3
      clear c3 hra hch1
      go_wp2_with fail
      refine (Divide_any b g _ (by omega) (by omega) (by rw [Is_val HGG.out]; exact hg0.out)).mono ?_
      rintro e w3 ⟨qb, rb, rfl, _, hrb, c3⟩
      rw [HY.out, Is_val HGG.out, Nat.mod_eq_zero_of_dvd (by rw [← HG.out]; exact Nat.gcd_dvd_right x y)] at hrb
      obtain rfl : rb = ⟨#[]⟩ := Is_unique hrb (Is_lit _ _ (by decide) (by simp [nolead]))
      have hch3 := hch2.then c3
      clear c3 hrb hch2
      go_wp2_with fail
      refine (awake_any _).mono ?_
      rintro e w5 ⟨rfl, c5⟩
      have hch4 := hch3.then c5
      clear c5 hch3
      go_wp2_with fail
      refine (multiply_any a c _ (by omega) (by omega)).mono ?_
      rintro e w6 ⟨s, rfl, hs, c6⟩
      rw [HX.out, HZ.out] at hs
      have zs : s.size ≤ 60 + 60 := mul_size hs (by rw [← HX.out]; exact va.out) (by rw [← HZ.out]; exact vc.out)
      have HS := Lib.hid hs
      have hch5 := hch4.then c6
      clear c6 hch4 hs
      go_wp2_with fail
      refine (multiply_any b c _ (by omega) (by omega)).mono ?_
      rintro e w7 ⟨t, rfl, ht, c7⟩
      rw [HY.out, HZ.out] at ht
      have zt : t.size ≤ 60 + 60 := mul_size ht (by rw [← HY.out]; exact vb.out) (by rw [← HZ.out]; exact vc.out)
      have HT := Lib.hid ht
      have hch6 := hch5.then c7
      clear c7 hch5 ht
      go_wp2_with fail
      refine (GCD_any s t _ (by omega) (by omega)).mono ?_
      rintro e w8 ⟨u, rfl, hu, c8⟩
      rw [Is_val HS.out, Is_val HT.out, Nat.gcd_mul_right, HG.out] at hu
      have HU := Lib.hid hu
      have hch7 := hch6.then c8
      clear c8 hch6 hu
      go_wp2_with fail
      refine (multiply_any g c _ (by omega) (by omega)).mono ?_
      rintro e w9 ⟨v, rfl, hv, c9⟩
      rw [Is_val HGG.out, HZ.out] at hv
      obtain rfl : v = u := Is_unique hv HU.out
      have hch8 := hch7.then c9
      clear c9 hch7 hv
      go_wp2_with fail
      refine (GCD_any b a _ (by omega) (by omega)).mono ?_
      rintro e w10 ⟨k, rfl, hk, c10⟩
      rw [HY.out, HX.out, Nat.gcd_comm, HG.out] at hk
      obtain rfl : k = g := Is_unique hk HGG.out
      have hch9 := hch8.then c10
      clear c10 hch8 hk
      go_wp2_with fail
      go_ret
      exact ⟨rfl, hch9⟩
  · have HF : Hid (fewB [a, b, c] = false) := by show _ = _; simpa using hf
    clear hf
    go_enter Tryd.func15, Tryd.ntmps15
    go_wp2_with fail
    refine (few_any w.heap.size 3 [a, b, c] _ (by simp) hcs.out).mono ?_
    rintro e w1 ⟨rfl, rfl⟩
    rw [HF.out]
    go_wp2_with fail
    refine (awake_any _).mono ?_
    rintro e w2 ⟨rfl, c2⟩
    have hch := hch0.then c2
    clear c2
    go_wp2_with fail
    go_ret
    exact ⟨rfl, hch⟩

end Go.Proofs.YtnemodboceenfaaDoor
