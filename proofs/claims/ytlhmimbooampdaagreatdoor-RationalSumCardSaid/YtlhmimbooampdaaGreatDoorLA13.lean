/-
  Law: Sum.
-/
import Derived.Test.YtlhmimbooampdaaGreatDoorV21
namespace Go.Proofs.YtlhmimbooampdaaGreatDoor
open Go.RowKit Nd
def pickN (k n : Nat) : Nat := if n = 0 then 0 else k % n
theorem pickN_le (k n : Nat) : pickN k n ≤ n := by
  unfold pickN; split
  · omega
  · exact Nat.le_of_lt (Nat.mod_lt _ (by omega))
theorem pickN_lt {k n : Nat} (h : n ≠ 0) : pickN k n < n := by unfold pickN; rw [if_neg h]; exact Nat.mod_lt _ (by omega)
theorem Sum_all (xs : List Q3) (A : Option Addr) (cap k : Nat) (w : World) (hf : ∀ x ∈ xs, fits x k) (hk : 1 ≤ k) (hcap : xs.length ≤ cap) (hcm : cap ≤ 9223372036854775807) (hb : xs.length * (k + 2) ≤ 34359738367) (hx : Rds w A xs) :
    Calls Tryz.prog 10 #[.slice A xs.length cap] w fun e w' => ∃ z, e = .returned (.agg #[.bool z.neg, .string z.num, .string z.den]) ∧ Val z (sumQ xs) (xs.length * (k + 2) + 1) ∧ Chg [] w w' := by
  cases xs with
  | nil =>
    refine (Sum_nil A cap w).mono ?_
    rintro e w1 ⟨z, rfl, hz, c1⟩
    exact ⟨z, rfl, hz.mono (by omega), c1⟩
  | cons x xs =>
    refine (Sum_upto _ (x :: xs).length (by simp) (Nat.le_refl _) (x :: xs) A cap k w rfl hf hk hcap hcm hb hx).mono ?_
    rintro e w1 ⟨z, rfl, hz, c1⟩
    exact ⟨z, rfl, hz.mono (by omega), c1⟩

set_option maxRecDepth 20000 in
set_option maxHeartbeats 1000000 in
theorem pick_any (k n : Nat) (w : World) (hk : k ≤ 1000000) (hn : n ≤ 1000000) :
    Calls Tryz.prog 9 #[.int .i64 k, .int .i64 n] w fun e w' => e = .returned (.int .i64 (pickN k n : Nat)) ∧ Chg [] w w' := by
  by_cases h0 : n = 0
  · subst h0
    go_enter Tryz.func9, Tryz.ntmps9
    go_wp2_with fail
    go_ret
    exact ⟨rfl, Chg.refl _ _⟩
  · have hd : decide ((n : Int) ≤ 0) = false := by simp; omega
    have hn1 : 0 < (n : Int) := by omega
    obtain ⟨p, HP⟩ := name_it (pickN k n)
    have hp : Hid ((((k : Int) % (n : Int)) + (n : Int)) % (n : Int) = (p : Int)) := by
      show _ = _
      rw [← HP.out]; unfold pickN; rw [if_neg h0, Int.add_emod_right, Int.emod_emod]; rfl
    have hm1 : 0 ≤ (k : Int) % (n : Int) := Int.emod_nonneg _ (by omega)
    have hm2 : (k : Int) % (n : Int) < (n : Int) := Int.emod_lt_of_pos _ hn1
    rw [HP.out]
    go_enter Tryz.func9, Tryz.ntmps9
    go_wp2_with fail
    go_ret
    exact ⟨ret_eq (by first | rfl | (show Value.int .i64 _ = _; rw [hp.out])), Chg.refl _ _⟩

set_option maxRecDepth 20000 in
set_option maxHeartbeats 4000000 in
theorem lsum2_nat (xs : List Q3) (A : Option Addr) (cap k : Nat) (w : World) (hcap : xs.length ≤ cap) (hcm : cap ≤ 9223372036854775807) (hx : Rds w A xs) (hk : k ≤ 255) :
    Calls Tryz.prog 3 #[.slice A xs.length cap, .int .u8 k] w fun e w' => e = .returned (.bool true) ∧ Chg [] w w' := by
  have hch : Chg [] w w := Chg.refl _ _
  cases hf : (decide (xs.length ≤ 12) && fewQ xs)
  · have HF := Lib.hid hf
    clear hf
    go_enter Tryz.func3, Tryz.ntmps3
    go_wp2_with fail
    refine (fewRds_any xs A cap 12 _ (by omega) hx).mono ?_
    rintro e w1 ⟨rfl, c1⟩
    rw [HF.out]
    replace hch := hch.then c1
    clear c1
    go_wp2_with fail
    refine (awake2_any _).mono ?_
    rintro e w2 ⟨rfl, c1⟩
    replace hch := hch.then c1
    clear c1
    go_wp2_with fail
    go_ret
    exact ⟨rfl, hch⟩
  · have hss : xs.length ≤ 12 ∧ fewQ xs = true := by simpa using hf
    have HF := Lib.hid hf
    have FIT := Lib.hid (fewQ_fits hss.2)
    have hn12 := hss.1
    clear hf hss
    have hgA : Hid (0 < xs.length → ∃ g o, A = some ⟨g, o, none⟩ ∧ g < w.heap.size) := Lib.hid hx.form
    have SA := Lib.hid (fun (ys : List Q3) (B : Option Addr) (c : Nat) (w : World) (h1 : ∀ y ∈ ys, y ∈ xs) (h2 : ys.length = xs.length) (h3 : ys.length ≤ c) (h4 : c ≤ 9223372036854775807) (h5 : Rds w B ys) => Sum_all ys B c 24 w (fun y hy => FIT.out y (h1 y hy)) (by omega) h3 h4 (by omega) h5)
    have SR := Lib.hid (fun (w : World) (h5 : Rds w A xs) => rSum_any xs A cap 24 w FIT.out (by omega) (by omega) (by omega) h5)
    obtain ⟨n, HN⟩ := name_it xs.length
    rw [HN.out] at hn12 hcap ⊢
    go_enter Tryz.func3, Tryz.ntmps3
    go_wp2_with fail
    rw [← HN.out]
    refine (fewRds_any xs A cap 12 _ (by omega) hx).mono ?_
    rintro e w1 ⟨rfl, c1⟩
    rw [HF.out, HN.out]
    replace hx := hx.keep0 c1
    replace hch := hch.then c1
    clear c1 HF
    go_wp2_with fail
    refine (pick_any k n _ (by omega) (by omega)).mono ?_
    rintro e w2 ⟨rfl, c1⟩
    replace hx := hx.keep0 c1
    replace hch := hch.then c1
    clear c1
    obtain ⟨i, HI⟩ := name_it (pickN k n)
    rw [HI.out]
    have hin : i ≤ n := by rw [← HI.out]; exact pickN_le _ _
    go_wp2_with fail
    obtain ⟨w3, HW3⟩ := name_it w2
    rw [HW3.out] at hx hch ⊢
    replace hx := hx.keep0 ((Chg.refl [] _).drew)
    replace hch := hch.drew
    have z0 : (0 : Int) ≤ (i : Int) := by omega
    have z1 : (i : Int) ≤ (n : Int) := by omega
    have z2 : (n : Int) ≤ (cap : Int) := by omega
    have z3 : (i : Int) ≤ (cap : Int) := by omega
    by_cases hn0 : n = 0
    · subst hn0
      obtain rfl : i = 0 := by omega
      obtain rfl : xs = [] := List.eq_nil_of_length_eq_zero HN.out
      by_cases hcap0 : cap = 0 <;> rcases A with _ | a
      · subst hcap0
        go_region_held3 (fun w' => True) (trivial) (fail)
        all_goals
          have hch3 : Chg [] w w3.drew := hch
          obtain ⟨w6, HW6⟩ := name_it w3.drew
          rw [HW6.out] at hch3 ⊢
          clear hch
          have hch := hch3
          clear hch3
          have hx : ∀ (w : World) (B : Option Addr), Rds w B [] := fun _ _ => Rds.nil _ _
          have HX := Lib.hid hx
          clear hx
          go_wp2_with fail
          refine (awake2_any _).mono ?_
          rintro e w7 ⟨rfl, c1⟩
          replace hch := hch.then c1
          clear c1
          go_wp2_with fail
          refine (SA.out [] _ _ _ (fun _ h => h) rfl (Nat.zero_le _) (by first | omega | decide) (HX.out _ _)).mono ?_
          rintro e w8 ⟨z1, rfl, hz1, c1⟩
          replace hch := hch.then c1
          clear c1
          go_wp2_with fail
          refine (SR.out _ (HX.out _ _)).mono ?_
          rintro e w8 ⟨z2, rfl, hz2, c1⟩
          replace hch := hch.then c1
          clear c1
          obtain rfl := hz1.unique hz2
          go_wp2_with fail
          refine (SA.out [] _ _ _ (fun _ h => h) rfl (Nat.zero_le _) (by first | omega | decide) (HX.out _ _)).mono ?_
          rintro e w8 ⟨z3, rfl, hz3, c1⟩
          replace hch := hch.then c1
          clear c1
          obtain rfl := hz1.unique hz3
          go_wp2_with fail
          refine (SA.out [] _ _ _ (fun _ h => h) rfl (Nat.zero_le _) (by first | omega | decide) (HX.out _ _)).mono ?_
          rintro e w8 ⟨z4, rfl, hz4, c1⟩
          replace hch := hch.then c1
          clear c1
          obtain rfl := hz1.unique hz4
          go_wp2_with fail
          go_ret
          exact ⟨ret_eq (by simp), hch⟩
      · subst hcap0
        go_region_held3 (fun w' => True) (trivial) (fail)
        all_goals
          have hch3 : Chg [] w w3.drew := hch
          obtain ⟨w6, HW6⟩ := name_it w3.drew
          rw [HW6.out] at hch3 ⊢
          clear hch
          have hch := hch3
          clear hch3
          have hx : ∀ (w : World) (B : Option Addr), Rds w B [] := fun _ _ => Rds.nil _ _
          have HX := Lib.hid hx
          clear hx
          go_wp2_with fail
          refine (awake2_any _).mono ?_
          rintro e w7 ⟨rfl, c1⟩
          replace hch := hch.then c1
          clear c1
          go_wp2_with fail
          refine (SA.out [] _ _ _ (fun _ h => h) rfl (Nat.zero_le _) (by first | omega | decide) (HX.out _ _)).mono ?_
          rintro e w8 ⟨z1, rfl, hz1, c1⟩
          replace hch := hch.then c1
          clear c1
          go_wp2_with fail
          refine (SR.out _ (HX.out _ _)).mono ?_
          rintro e w8 ⟨z2, rfl, hz2, c1⟩
          replace hch := hch.then c1
          clear c1
          obtain rfl := hz1.unique hz2
          go_wp2_with fail
          refine (SA.out [] _ _ _ (fun _ h => h) rfl (Nat.zero_le _) (by first | omega | decide) (HX.out _ _)).mono ?_
          rintro e w8 ⟨z3, rfl, hz3, c1⟩
          replace hch := hch.then c1
          clear c1
          obtain rfl := hz1.unique hz3
          go_wp2_with fail
          refine (SA.out [] _ _ _ (fun _ h => h) rfl (Nat.zero_le _) (by first | omega | decide) (HX.out _ _)).mono ?_
          rintro e w8 ⟨z4, rfl, hz4, c1⟩
          replace hch := hch.then c1
          clear c1
          obtain rfl := hz1.unique hz4
          go_wp2_with fail
          go_ret
          exact ⟨ret_eq (by simp), hch⟩
      · go_region_held3 (fun w' => True) (trivial) (fail)
        all_goals
          have hch3 : Chg [] w w3.drew := hch
          obtain ⟨w6, HW6⟩ := name_it w3.drew
          rw [HW6.out] at hch3 ⊢
          clear hch
          have hch := hch3
          clear hch3
          have hx : ∀ (w : World) (B : Option Addr), Rds w B [] := fun _ _ => Rds.nil _ _
          have HX := Lib.hid hx
          clear hx
          go_wp2_with fail
          refine (awake2_any _).mono ?_
          rintro e w7 ⟨rfl, c1⟩
          replace hch := hch.then c1
          clear c1
          go_wp2_with fail
          refine (SA.out [] _ _ _ (fun _ h => h) rfl (Nat.zero_le _) (by first | omega | decide) (HX.out _ _)).mono ?_
          rintro e w8 ⟨z1, rfl, hz1, c1⟩
          replace hch := hch.then c1
          clear c1
          go_wp2_with fail
          refine (SR.out _ (HX.out _ _)).mono ?_
          rintro e w8 ⟨z2, rfl, hz2, c1⟩
          replace hch := hch.then c1
          clear c1
          obtain rfl := hz1.unique hz2
          go_wp2_with fail
          refine (SA.out [] _ _ _ (fun _ h => h) rfl (Nat.zero_le _) (by first | omega | decide) (HX.out _ _)).mono ?_
          rintro e w8 ⟨z3, rfl, hz3, c1⟩
          replace hch := hch.then c1
          clear c1
          obtain rfl := hz1.unique hz3
          go_wp2_with fail
          refine (SA.out [] _ _ _ (fun _ h => h) rfl (Nat.zero_le _) (by first | omega | decide) (HX.out _ _)).mono ?_
          rintro e w8 ⟨z4, rfl, hz4, c1⟩
          replace hch := hch.then c1
          clear c1
          obtain rfl := hz1.unique hz4
          go_wp2_with fail
          go_ret
          exact ⟨ret_eq (by simp), hch⟩
      · go_region_held3 (fun w' => True) (trivial) (fail)
        all_goals
          have hch3 : Chg [] w w3.drew := hch
          obtain ⟨w6, HW6⟩ := name_it w3.drew
          rw [HW6.out] at hch3 ⊢
          clear hch
          have hch := hch3
          clear hch3
          have hx : ∀ (w : World) (B : Option Addr), Rds w B [] := fun _ _ => Rds.nil _ _
          have HX := Lib.hid hx
          clear hx
          go_wp2_with fail
          refine (awake2_any _).mono ?_
          rintro e w7 ⟨rfl, c1⟩
          replace hch := hch.then c1
          clear c1
          go_wp2_with fail
          refine (SA.out [] _ _ _ (fun _ h => h) rfl (Nat.zero_le _) (by first | omega | decide) (HX.out _ _)).mono ?_
          rintro e w8 ⟨z1, rfl, hz1, c1⟩
          replace hch := hch.then c1
          clear c1
          go_wp2_with fail
          refine (SR.out _ (HX.out _ _)).mono ?_
          rintro e w8 ⟨z2, rfl, hz2, c1⟩
          replace hch := hch.then c1
          clear c1
          obtain rfl := hz1.unique hz2
          go_wp2_with fail
          refine (SA.out [] _ _ _ (fun _ h => h) rfl (Nat.zero_le _) (by first | omega | decide) (HX.out _ _)).mono ?_
          rintro e w8 ⟨z3, rfl, hz3, c1⟩
          replace hch := hch.then c1
          clear c1
          obtain rfl := hz1.unique hz3
          go_wp2_with fail
          refine (SA.out [] _ _ _ (fun _ h => h) rfl (Nat.zero_le _) (by first | omega | decide) (HX.out _ _)).mono ?_
          rintro e w8 ⟨z4, rfl, hz4, c1⟩
          replace hch := hch.then c1
          clear c1
          obtain rfl := hz1.unique hz4
          go_wp2_with fail
          go_ret
          exact ⟨ret_eq (by simp), hch⟩
    · have hlt : i < n := by rw [← HI.out]; exact pickN_lt hn0
      have hcpi : ¬ cap = i := by omega
      obtain ⟨g, o, rfl, hg0⟩ := hgA.out (by rw [HN.out]; omega)
      have hgl := Nat.lt_of_lt_of_le hg0 hch.size
      go_region_held3 (fun w' => True) (trivial) (first
          | (refine step_append3 _ (by rfl) _ _ (by rfl) (.slice none 0 0) [] (by rfl) (Own3.nil _) (some ⟨g, o + i * 3, none⟩) (n - i) (cap - i) (xs.drop i) (by rfl) (by rw [List.length_drop, HN.out]) (hx.drop i) (by simp; omega) ?_
             intro v1 w4 own1 cv1 hv1
             have own1b := Lib.hid own1
             have hx1 := Lib.hid (hx.keep0 cv1)
             have hch1 := hch.then cv1
             have HV1 := Lib.hid hv1
             clear own1 cv1 hv1)
          | (refine step_append3 _ (by rfl) _ _ (by rfl) v1 ([] ++ xs.drop i) (by rfl) own1b.out (some ⟨g, o, none⟩) i cap (xs.take i) (by rfl) (by rw [List.length_take, HN.out]; omega) (hx1.out.take i) (by rw [List.nil_append, List.length_drop, HN.out]; omega) ?_
             intro v2 w5 own2 cv2 hv2
             clear hv2))
      all_goals
        rw [List.nil_append] at own2
        have hall : Hid (∃ A2 cap2, v2 = .slice A2 n cap2 ∧ n ≤ cap2 ∧ cap2 ≤ 9223372036854775807 ∧ Rds w5 A2 (xs.drop i ++ xs.take i)) := by
          show ∃ _ _, _
          obtain ⟨A2, cap2, hv, h1, h2, h3⟩ := own2.rds
          have hl : (xs.drop i ++ xs.take i).length = n := by rw [List.length_append, List.length_drop, List.length_take, HN.out]; omega
          rw [hl] at hv h1
          exact ⟨A2, cap2, hv, h1, h2, h3⟩
        have hfr : ∀ x, x ∈ v1.ownBlock.toList → w3.heap.size ≤ x := by
          intro x hxm
          rcases HV1.out with h | h
          · rw [h] at hxm; simp [Value.ownBlock] at hxm
          · rw [h] at hxm; simp at hxm; omega
        replace hx := hx1.out.keep cv2 (by intro a ha hm; cases ha; have := hfr _ hm; have h7 : g < w3.heap.size := hgl; exact absurd this (by simp only; omega))
        replace hch := hch1.trans cv2 (fun x hxm => .inr (Nat.le_trans hch.size (hfr x hxm)))
        clear hx1 hch1 hfr HV1 cv2 own1b
        obtain ⟨A2, cap2, rfl, g1, g2, hx2⟩ := hall.out
        clear hall own2
        obtain ⟨q, Q⟩ := name_it (sumQ xs)
        have hq2 : Hid (sumQ (xs.drop i ++ xs.take i) = q) := by show _ = _; rw [sumQ_append, ← Q.out, ← sumQ_split xs i]; grind
        have hl2 : Hid ((xs.drop i ++ xs.take i).length = n) := by show _ = _; rw [List.length_append, List.length_drop, List.length_take, HN.out]; omega
        have hm2 : Hid (∀ y ∈ xs.drop i ++ xs.take i, y ∈ xs) := by
          show ∀ _ ∈ _, _
          intro y hy
          rcases List.mem_append.1 hy with h | h
          · exact List.mem_of_mem_drop h
          · exact List.mem_of_mem_take h
        obtain ⟨ys, HY⟩ := name_it (xs.drop i ++ xs.take i)
        rw [HY.out] at hx2 hq2 hl2 hm2
        obtain ⟨w6, HW6⟩ := name_it w5
        rw [HW6.out] at hx hx2 hch ⊢
        go_wp2_with fail
        refine (awake2_any _).mono ?_
        rintro e w7 ⟨rfl, c1⟩
        replace hx := hx.keep0 c1
        replace hx2 := hx2.keep0 c1
        replace hch := hch.then c1
        clear c1
        go_wp2_with fail
        rw [← HN.out]
        refine (SA.out xs _ cap _ (fun _ h => h) rfl (by rw [HN.out]; exact hcap) hcm hx).mono ?_
        rintro e w8 ⟨z1, rfl, hz1, c1⟩
        rw [Q.out] at hz1
        replace hx := hx.keep0 c1
        replace hx2 := hx2.keep0 c1
        replace hch := hch.then c1
        clear c1
        rw [HN.out]
        go_wp2_with fail
        rw [← HN.out]
        refine (SR.out _ hx).mono ?_
        rintro e w8 ⟨z2, rfl, hz2, c1⟩
        rw [Q.out] at hz2
        replace hx := hx.keep0 c1
        replace hx2 := hx2.keep0 c1
        replace hch := hch.then c1
        clear c1
        rw [HN.out]
        obtain rfl := hz1.unique hz2
        go_wp2_with fail
        rw [← hl2.out]
        refine (SA.out ys A2 cap2 _ hm2.out (by rw [hl2.out, HN.out]) (by rw [hl2.out]; exact g1) g2 hx2).mono ?_
        rintro e w8 ⟨z3, rfl, hz3, c1⟩
        rw [hq2.out] at hz3
        replace hx := hx.keep0 c1
        replace hx2 := hx2.keep0 c1
        replace hch := hch.then c1
        clear c1
        rw [hl2.out]
        obtain rfl := hz1.unique hz3
        go_wp2_with fail
        rw [← HN.out]
        refine (SA.out xs _ cap _ (fun _ h => h) rfl (by rw [HN.out]; exact hcap) hcm hx).mono ?_
        rintro e w8 ⟨z4, rfl, hz4, c1⟩
        rw [Q.out] at hz4
        replace hx := hx.keep0 c1
        replace hx2 := hx2.keep0 c1
        replace hch := hch.then c1
        clear c1
        rw [HN.out]
        obtain rfl := hz1.unique hz4
        go_wp2_with fail
        go_ret
        exact ⟨ret_eq (by simp), hch⟩

theorem lsum2_any (xs : List Q3) (A : Option Addr) (cap : Nat) (k : Int) (w : World) (hcap : xs.length ≤ cap) (hcm : cap ≤ 9223372036854775807) (hx : Rds w A xs) (hk : (Lit.int .u8 k).wf = true) :
    Calls Tryz.prog 3 #[.slice A xs.length cap, .int .u8 k] w fun e w' => e = .returned (.bool true) ∧ Chg [] w w' := by
  have hb : 0 ≤ k ∧ k ≤ 255 := by simpa [Lit.wf, IntKind.min, IntKind.max, IntKind.signed, IntKind.bits] using hk
  obtain ⟨k, rfl⟩ := Int.eq_ofNat_of_zero_le hb.1
  exact lsum2_nat xs A cap k w hcap hcm hx (by omega)

end Go.Proofs.YtlhmimbooampdaaGreatDoor
