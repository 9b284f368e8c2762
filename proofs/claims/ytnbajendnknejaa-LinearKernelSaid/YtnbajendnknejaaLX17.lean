/-
  awake of law 3.
-/
import Derived.Test.YtnbajendnknejaaLX16
namespace Go.Proofs.Ytnbajendnknejaa
open Go.RowKit Nd
theorem ech_congr {f g : Nat → Nat → Rat} {n m : Nat} (h : ∀ i, i < n → ∀ j, j < m → f i j = g i j) : ∀ c, c ≤ m → (ech f n c).2 = (ech g n c).2 ∧ ∀ i, i < n → ∀ j, j < m → (ech f n c).1 i j = (ech g n c).1 i j
  | 0, _ => ⟨rfl, h⟩
  | c + 1, hc => by
    obtain ⟨h1, h2⟩ := ech_congr h c (by omega)
    have hF := ech_holds g n c
    have hp : pivR (ech f n c).1 n (ech g n c).2.length c = pivR (ech g n c).1 n (ech g n c).2.length c := pivR_congr hF.len (fun i _ hi => by rw [h2 i hi c (by omega)])
    rw [ech, ech, h1, hp]
    by_cases hlt : pivR (ech g n c).1 n (ech g n c).2.length c < n
    · rw [if_pos hlt, if_pos hlt]
      refine ⟨rfl, fun i hi j hj => ?_⟩
      show stp _ _ _ _ i j = stp _ _ _ _ i j
      have hb := pivR_le (f := (ech g n c).1) (c := c) hF.len
      have hsw : ∀ i, i < n → ∀ j, j < m → swp (ech f n c).1 (ech g n c).2.length (pivR (ech g n c).1 n (ech g n c).2.length c) i j = swp (ech g n c).1 (ech g n c).2.length (pivR (ech g n c).1 n (ech g n c).2.length c) i j := by
        intro i hi j hj
        unfold swp
        by_cases e1 : i = (ech g n c).2.length
        · simp only [e1, if_true]; exact h2 _ hlt j hj
        · by_cases e2 : i = pivR (ech g n c).1 n (ech g n c).2.length c
          · rw [if_neg e1, if_neg e1, if_pos e2, if_pos e2]; exact h2 _ (by omega) j hj
          · rw [if_neg e1, if_neg e1, if_neg e2, if_neg e2]; exact h2 i hi j hj
      by_cases e1 : i = (ech g n c).2.length
      · subst e1; rw [stp_r, stp_r, h2 _ hlt j hj, h2 _ hlt c (by omega)]
      · rw [stp_ne _ j e1, stp_ne _ j e1, hsw i hi j hj, hsw i hi c (by omega), h2 _ hlt j hj, h2 _ hlt c (by omega)]
    · rw [if_neg hlt, if_neg hlt]; exact ⟨h1, h2⟩
/-- The chapter's example. -/
def exG : Nat → Nat → Rat := fun i j => if i = 0 then (if j = 0 then 1 else 2) else (if j = 0 then 2 else 4)
theorem exG_piv : (ech exG 2 2).2 = [0] := by decide +kernel
theorem exG_val : (ech exG 2 2).1 0 1 = 2 := by decide +kernel
theorem exQ {z1 z2 z3 z4 : Q3} {k : Nat} (h1 : Val z1 1 k) (h2 : Val z2 2 k) (h3 : Val z3 2 k) (h4 : Val z4 4 k) : ∀ i, i < 2 → ∀ j, j < 2 → matQ [[z1, z2], [z3, z4]] i j = exG i j := by
  intro i hi j hj
  unfold matQ exG
  rcases (by omega : i = 0 ∨ i = 1) with rfl | rfl
  · rcases (by omega : j = 0 ∨ j = 1) with rfl | rfl
    · exact h1.num.rat
    · exact h2.num.rat
  · rcases (by omega : j = 0 ∨ j = 1) with rfl | rfl
    · exact h3.num.rat
    · exact h4.num.rat
theorem ratOf_q0 : ratOf q0 = 0 := Val_zero.num.rat

theorem rds_two (w : World) (x y : Q3) : Rds (w.alloc (.cells #[.bool x.neg, .string x.num, .string x.den, .bool y.neg, .string y.num, .string y.den] 49)) (some ⟨w.heap.size, 0, none⟩) [x, y] := by
  intro _
  refine ⟨_, 0, rfl, by simp, fun j hj => ?_⟩
  rcases (by simp at hj; omega : j = 0 ∨ j = 1) with rfl | rfl
  · simp
  · simp
theorem mtx_two (w : World) (A B : Nat) (r s : List Q3) (n : Nat) (h1 : r.length = n) (h2 : s.length = n) (hn : n ≤ 1000000) (hr : Rds w (some ⟨A, 0, none⟩) r) (hs : Rds w (some ⟨B, 0, none⟩) s) :
    Mtx (w.alloc (.cells #[.slice (some ⟨A, 0, none⟩) n n, .slice (some ⟨B, 0, none⟩) n n] 23)) (some ⟨w.heap.size, 0, none⟩) [r, s] := by
  intro _
  refine ⟨_, 0, rfl, by simp, fun j hj => ?_⟩
  rcases (by simp at hj; omega : j = 0 ∨ j = 1) with rfl | rfl
  · exact ⟨some ⟨A, 0, none⟩, n, by simp [h1], by simp [h1], by omega, hr.keep0 ((Chg.refl [] w).alloc _)⟩
  · exact ⟨some ⟨B, 0, none⟩, n, by simp [h2], by simp [h2], by omega, hs.keep0 ((Chg.refl [] w).alloc _)⟩

theorem ex_shape (z1 z2 z3 z4 : Q3) : shapeE [[z1, z2], [z3, z4]] = 0 :=
  shapeE_good (by simp) (by simp) (fun i hi => by
    rcases (by simp at hi; omega : i = 0 ∨ i = 1) with rfl | rfl
    · rfl
    · rfl) (by simp) (by simp)
theorem ex_fits {z1 z2 z3 z4 : Q3} {k : Nat} {a b c d : Rat} (h1 : Val z1 a k) (h2 : Val z2 b k) (h3 : Val z3 c k) (h4 : Val z4 d k) : ∀ i, i < [[z1, z2], [z3, z4]].length → ∀ j, j < ([[z1, z2], [z3, z4]].getD 0 []).length → fits (([[z1, z2], [z3, z4]].getD i []).getD j q0) k := by
  intro i hi j hj
  rcases (by simp at hi; omega : i = 0 ∨ i = 1) with rfl | rfl
  · rcases (by simp at hj; omega : j = 0 ∨ j = 1) with rfl | rfl
    · exact h1.num.fit
    · exact h2.num.fit
  · rcases (by simp at hj; omega : j = 0 ∨ j = 1) with rfl | rfl
    · exact h3.num.fit
    · exact h4.num.fit
theorem ex_sing {z1 z2 z3 z4 : Q3} {k : Nat} (h1 : Val z1 1 k) (h2 : Val z2 2 k) (h3 : Val z3 2 k) (h4 : Val z4 4 k) : (ech (augQ [[z1, z2], [z3, z4]] [q0, q0] 2) 2 2).2.length < 2 := by
  rw [(ech_congr (g := exG) (m := 2) (fun i hi j hj => by unfold augQ; rw [if_pos hj]; exact exQ h1 h2 h3 h4 i hi j hj) 2 (Nat.le_refl _)).1, exG_piv]
  decide

theorem kcols_ex : kcols [0] 2 = [1] := by decide
theorem ex_ker {z1 z2 z3 z4 : Q3} {k K : Nat} {KM : List (List Q3)} (h1 : Val z1 1 k) (h2 : Val z2 2 k) (h3 : Val z3 2 k) (h4 : Val z4 4 k)
    (hK : KRows KM (ech (matQ [[z1, z2], [z3, z4]]) 2 2).1 (ech (matQ [[z1, z2], [z3, z4]]) 2 2).2 2 2 K) : KM.length = 1 ∧ (KM.getD 0 []).length = 2 ∧ Val ((KM.getD 0 []).getD 0 q0) ((-2 : Int) : Rat) K ∧ Val ((KM.getD 0 []).getD 1 q0) ((1 : Int) : Rat) K := by
  obtain ⟨e1, e2⟩ := ech_congr (g := exG) (m := 2) (exQ h1 h2 h3 h4) 2 (Nat.le_refl _)
  rw [e1, exG_piv] at hK
  have hl := hK.len
  rw [kcols_ex] at hl
  have hl1 : KM.length = 1 := hl
  have hr := hK.row 0 (by omega)
  rw [kcols_ex] at hr
  refine ⟨hl1, hr.len, ?_, ?_⟩
  · have := hr.val 0 (by omega)
    simp only [List.length_singleton, kvF, List.getD_cons_zero, if_true, e2 0 (by omega) 1 (by omega), exG_val] at this
    exact this
  · have := hr.val 1 (by omega)
    simp only [List.length_singleton, kvF, List.getD_cons_zero, if_true] at this
    exact this

set_option maxRecDepth 20000 in
set_option maxHeartbeats 4000000 in
theorem awake3_any (w : World) : Calls Try.prog 22 #[] w fun e w' => e = .returned (.bool true) ∧ Chg [] w w' := by
  have hch : Chg [] w w := Chg.refl _ _
  go_enter Try.func22, Try.ntmps22
  go_wp2_with fail
  refine (IntV 1 _ (by omega) (by omega)).mono ?_
  rintro e w1 ⟨z1, rfl, h1, c1⟩
  have H1 := Lib.hid h1
  replace hch := hch.then c1
  clear c1 h1
  go_wp2_with fail
  refine (IntV 2 _ (by omega) (by omega)).mono ?_
  rintro e w2 ⟨z2, rfl, h2, c1⟩
  have H2 := Lib.hid h2
  replace hch := hch.then c1
  clear c1 h2
  have r1 := rds_two w2 z1 z2
  replace hch := hch.then ((Chg.refl [] w2).alloc (.cells #[.bool z1.neg, .string z1.num, .string z1.den, .bool z2.neg, .string z2.num, .string z2.den] 49))
  obtain ⟨g1, G1⟩ := name_it w2.heap.size
  rw [G1.out] at r1
  have hg1 := G1.out
  go_wp2_with fail
  refine (IntV 2 _ (by omega) (by omega)).mono ?_
  rintro e w3 ⟨z3, rfl, h3, c1⟩
  have H3 := Lib.hid h3
  replace r1 := r1.keep0 c1
  replace hch := hch.then c1
  clear c1 h3
  go_wp2_with fail
  refine (IntV 4 _ (by omega) (by omega)).mono ?_
  rintro e w4 ⟨z4, rfl, h4, c1⟩
  have H4 := Lib.hid h4
  replace r1 := r1.keep0 c1
  replace hch := hch.then c1
  clear c1 h4
  have r2 := rds_two w4 z3 z4
  have c1 : Chg [] w4 (w4.alloc (.cells #[.bool z3.neg, .string z3.num, .string z3.den, .bool z4.neg, .string z4.num, .string z4.den] 49)) := (Chg.refl [] w4).alloc _
  replace r1 := r1.keep0 c1
  replace hch := hch.then c1
  clear c1
  obtain ⟨g2, G2⟩ := name_it w4.heap.size
  rw [G2.out] at r2
  have hg2 := G2.out
  obtain ⟨w5, HW5⟩ := name_it (w4.alloc (.cells #[.bool z3.neg, .string z3.num, .string z3.den, .bool z4.neg, .string z4.num, .string z4.den] 49))
  rw [HW5.out] at r1 r2 hch
  have hM := mtx_two w5 g1 g2 [z1, z2] [z3, z4] 2 rfl rfl (by omega) r1 r2
  have c1 : Chg [] w5 (w5.alloc (.cells #[.slice (some ⟨g1, 0, none⟩) 2 2, .slice (some ⟨g2, 0, none⟩) 2 2] 23)) := (Chg.refl [] w5).alloc _
  replace hch := hch.then c1
  clear c1 r1 r2
  have hg3 : w5.heap.size = g2 + 1 := by rw [← HW5.out, World.size_alloc, hg2]
  rw [hg3] at hM
  obtain ⟨w6, HW6⟩ := name_it (w5.alloc (.cells #[.slice (some ⟨g1, 0, none⟩) 2 2, .slice (some ⟨g2, 0, none⟩) 2 2] 23))
  rw [HW6.out] at hM hch
  have hb : Rds (w6.alloc (.cells #[.bool false, .string ⟨#[]⟩, .string ⟨#[]⟩, .bool false, .string ⟨#[]⟩, .string ⟨#[]⟩] 49)) (some ⟨w6.heap.size, 0, none⟩) [q0, q0] := rds_two w6 q0 q0
  have c1 : Chg [] w6 (w6.alloc (.cells #[.bool false, .string ⟨#[]⟩, .string ⟨#[]⟩, .bool false, .string ⟨#[]⟩, .string ⟨#[]⟩] 49)) := (Chg.refl [] w6).alloc _
  replace hM := hM.keep0 c1
  replace hch := hch.then c1
  clear c1
  have hg4 : w6.heap.size = g2 + 2 := by rw [← HW6.out, World.size_alloc, hg3]
  rw [hg4] at hb
  obtain ⟨w7, HW7⟩ := name_it (w6.alloc (.cells #[.bool false, .string ⟨#[]⟩, .string ⟨#[]⟩, .bool false, .string ⟨#[]⟩, .string ⟨#[]⟩] 49))
  rw [HW7.out] at hM hch hb
  have V1 : Hid (Val z1 1 8) := Lib.hid (by have := H1.out; simpa using this)
  have V2 : Hid (Val z2 2 8) := Lib.hid (by have := H2.out; simpa using this)
  have V3 : Hid (Val z3 2 8) := Lib.hid (by have := H3.out; simpa using this)
  have V4 : Hid (Val z4 4 8) := Lib.hid (by have := H4.out; simpa using this)
  go_wp2_with fail
  rw [HW5.out, HW6.out, HW7.out]
  refine (Solve_sing [[z1, z2], [z3, z4]] [q0, q0] _ _ 2 2 8 _ hM hb (squareE_zero (ex_shape _ _ _ _) rfl) rfl (by omega) (by omega) (ex_fits V1.out V2.out V3.out V4.out) (fun j hj => by
    rcases (by simp at hj; omega : j = 0 ∨ j = 1) with rfl | rfl
    · exact (Val_zero.mono (show 1 ≤ 8 by omega)).num.fit
    · exact (Val_zero.mono (show 1 ≤ 8 by omega)).num.fit) (ex_sing V1.out V2.out V3.out V4.out)).mono ?_
  rintro e w8 ⟨rfl, c1⟩
  replace hM := hM.keep0 c1
  replace hch := hch.then c1
  clear c1 hb
  go_wp2_with fail
  refine (Kernel_ok [[z1, z2], [z3, z4]] _ 2 8 _ (by simp) hM (ex_shape _ _ _ _) (by omega) (by omega) (ex_fits V1.out V2.out V3.out V4.out)).mono ?_
  rintro e w9 ⟨v, KM, rfl, hV, hK, c1⟩
  replace hch := hch.then c1
  clear c1 hM
  obtain ⟨l1, l2, hy0, hy1⟩ := ex_ker V1.out V2.out V3.out V4.out hK
  rcases hV.form with ⟨_, h⟩ | ⟨gv, cv, rfl, hM⟩
  · rw [h] at l1; simp at l1
  obtain ⟨B, cB, d0, _, _, hB, _⟩ := hM.at_ (i := 0) (by omega)
  rw [l1]
  obtain ⟨y, HY⟩ := name_it (KM.getD 0 [])
  rw [HY.out] at l2 hy0 hy1 d0 hB
  rw [l2] at d0
  obtain ⟨gk, ok, rfl, _⟩ := hB.form (by omega)
  have e1 := hB.el (j := 0) (by omega)
  have e2 := hB.el (j := 1) (by omega)
  obtain ⟨y0, HY0⟩ := name_it (y.getD 0 q0)
  obtain ⟨y1, HY1⟩ := name_it (y.getD 1 q0)
  rw [HY0.out] at e1 hy0
  rw [HY1.out] at e2 hy1
  have W0 := Lib.hid hy0
  have W1 := Lib.hid hy1
  have hgv := hM.lt
  clear l1 hy0 hy1 hB hV hK hM
  simp only [Nat.zero_mul, Nat.one_mul, Nat.add_zero] at e1 e2
  go_upto_region 4 with fail
  have c8 : Chg [] w9 w9.drew := (Chg.refl _ _).drew
  replace e1 := e1.keep0 c8
  replace e2 := e2.keep0 c8
  replace d0 := (c8.cell (p := ⟨gv, 0, none⟩) hgv (by simp)).trans d0
  replace hgv := Nat.lt_of_lt_of_le hgv c8.size
  replace hch := hch.then c8
  clear c8
  go_region_held3 (fun w' => w'.cell? ⟨gv, 0, none⟩ = some (.slice (some ⟨gk, ok, none⟩) 2 cB) ∧ w'.cell? ⟨gk, ok, none⟩ = some (.bool y0.neg) ∧ w'.cell? ⟨gk, ok + 1, none⟩ = some (.string y0.num) ∧ w'.cell? ⟨gk, ok + 2, none⟩ = some (.string y0.den) ∧ w'.cell? ⟨gk, ok + 3, none⟩ = some (.bool y1.neg) ∧ w'.cell? ⟨gk, ok + 3 + 1, none⟩ = some (.string y1.num) ∧ w'.cell? ⟨gk, ok + 3 + 2, none⟩ = some (.string y1.den)) (first | exact ⟨d0, e1.a, e1.b, e1.c, e2.a, e2.b, e2.c⟩) (first
      | (go_at_call 49
         (with_reducible refine (IntV (-2) _ (by omega) (by omega)).mono ?_)
         rintro e w10 ⟨z, rfl, hz, c1⟩
         obtain rfl := W0.out.unique hz
         replace d0 := (c1.cell (p := ⟨gv, 0, none⟩) hgv (by simp)).trans d0
         replace hgv := Nat.lt_of_lt_of_le hgv c1.size
         replace e1 := e1.keep0 c1
         replace e2 := e2.keep0 c1
         replace hch := hch.then c1
         clear c1 hz)
      | (go_at_call 49
         (with_reducible refine (IntV 1 _ (by omega) (by omega)).mono ?_)
         rintro e w10 ⟨z, rfl, hz, c1⟩
         obtain rfl := W1.out.unique hz
         replace d0 := (c1.cell (p := ⟨gv, 0, none⟩) hgv (by simp)).trans d0
         replace hgv := Nat.lt_of_lt_of_le hgv c1.size
         replace e1 := e1.keep0 c1
         replace e2 := e2.keep0 c1
         replace hch := hch.then c1
         clear c1 hz))
  all_goals
    go_wp2_with fail
    go_ret
    exact ⟨ret_eq (by simp), hch⟩

end Go.Proofs.Ytnbajendnknejaa
