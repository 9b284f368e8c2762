/-
  Apply.
-/
import Derived.Test.YtnbajendnknejaaLX9
namespace Go.Proofs.Ytnbajendnknejaa
open Go.RowKit Nd
/-- The sum of the first values. -/
def sumF (p : Nat → Rat) : Nat → Rat
  | 0 => 0
  | j + 1 => sumF p j + p j
theorem sumQ_row {xs : List Q3} {p : Nat → Rat} {m k : Nat} (h : Row1 xs p m k) : sumQ xs = sumF p m := by
  have key : ∀ j, j ≤ m → sumQ (xs.take j) = sumF p j := by
    intro j
    induction j with
    | zero => intro _; simp [sumQ, sumF]
    | succ j ih =>
      intro hj
      rw [sumQ_snoc xs (by rw [h.len]; omega), ih (by omega), (h.val j (by omega)).num.rat, sumF]
  have := key m (Nat.le_refl _)
  rwa [List.take_of_length_le (by rw [h.len]; exact Nat.le_refl _)] at this
theorem Row1.fits {xs : List Q3} {p : Nat → Rat} {m k : Nat} (h : Row1 xs p m k) : ∀ x ∈ xs, fits x k := by
  intro x hx
  obtain ⟨j, hj, rfl⟩ := List.getElem_of_mem hx
  have := (h.val j (by rw [← h.len]; exact hj)).num.fit
  rwa [List.getD_eq_getElem?_getD, List.getElem?_eq_getElem hj, Option.getD_some] at this

set_option maxRecDepth 20000 in
set_option maxHeartbeats 1000000 in
theorem Apply_bad (M : List (List Q3)) (xs : List Q3) (A B : Option Addr) (cap cb : Nat) (w : World) (hn : M.length ≤ 1000000) (hx : Mtx w A M) (hs : shapeE M ≠ 0) :
    Calls Try.prog 23 #[.slice A M.length cap, .slice B xs.length cb] w fun e w' => e = .returned (.tuple #[.slice none 0 0, .int .i64 (shapeE M : Nat)]) ∧ Chg [] w w' := by
  obtain ⟨s, HS⟩ := name_it (shapeE M)
  rw [HS.out] at hs
  rw [HS.out]
  have hs1 : ((s : Int) != 0) = true := by simp; omega
  go_enter Try.func23, Try.ntmps23
  go_wp2_with fail
  refine (check_any M A cap _ hn hx).mono ?_
  rintro e w1 ⟨rfl, c1⟩
  rw [HS.out]
  go_wp2_with fail
  go_ret2
  exact ⟨rfl, c1⟩

set_option maxRecDepth 20000 in
set_option maxHeartbeats 1000000 in
theorem Apply_len (M : List (List Q3)) (xs : List Q3) (A B : Option Addr) (cap cb : Nat) (w : World) (_ : M.length ≤ 1000000) (hx : Mtx w A M) (hs : shapeE M = 0) (hl : xs.length ≠ (M.getD 0 []).length) :
    Calls Try.prog 23 #[.slice A M.length cap, .slice B xs.length cb] w fun e w' => e = .returned (.tuple #[.slice none 0 0, .int .i64 4]) ∧ Chg [] w w' := by
  obtain ⟨s0, s1, s2, s3, s4⟩ := shapeE_ok hs
  obtain ⟨n, HN⟩ := name_it M.length
  obtain ⟨m, HM⟩ := name_it (M.getD 0 []).length
  rw [HN.out] at s0 s3
  rw [HM.out] at s1 s4 hl
  obtain ⟨l, HL⟩ := name_it xs.length
  rw [HL.out] at hl
  rw [HL.out]
  have hl1 : ((l : Int) != (m : Int)) = true := by simp; omega
  have HX := Lib.hid hx
  obtain ⟨ga, oa, rfl, hga⟩ := hx.form (by rw [HN.out]; omega)
  obtain ⟨B0, cr0, h0, _, _, _⟩ := hx.at_ (i := 0) (by rw [HN.out]; omega)
  rw [Nat.add_zero, HM.out] at h0
  have HC0 := Lib.hid h0
  have HSH := Lib.hid hs
  have hch : Chg [] w w := Chg.refl _ _
  clear h0 hx hs s2
  rw [HN.out]
  go_enter Try.func23, Try.ntmps23
  go_wp2_with fail
  rw [← HN.out]
  refine (check_any M _ cap _ (by rw [HN.out]; omega) HX.out).mono ?_
  rintro e w1 ⟨rfl, c1⟩
  rw [HSH.out, HN.out]
  replace hch := hch.then c1
  clear c1
  have c0 := (hch.cell (p := ⟨ga, oa, none⟩) hga (by simp)).trans HC0.out
  have n1 : (0 : Int) < (n : Int) := by omega
  go_wp2_with fail
  go_ret2
  exact ⟨rfl, hch⟩

set_option maxRecDepth 20000 in
set_option maxHeartbeats 4000000 in
theorem Apply_ok (M : List (List Q3)) (xs : List Q3) (A B : Option Addr) (cap cb : Nat) (k : Nat) (w : World) (_ : M.length ≤ 1000000) (hx : Mtx w A M) (hb : Rds w B xs) (hs : shapeE M = 0) (hl : xs.length = (M.getD 0 []).length) (hk : 1 ≤ k) (hk2 : k ≤ 3000) (hfit : ∀ i, i < M.length → ∀ j, j < (M.getD 0 []).length → fits ((M.getD i []).getD j q0) k) (hfx : ∀ j, j < (M.getD 0 []).length → fits (xs.getD j q0) k) :
    Calls Try.prog 23 #[.slice A M.length cap, .slice B xs.length cb] w fun e w' => ∃ g zs, e = .returned (.tuple #[.slice (some ⟨g, 0, none⟩) M.length M.length, .int .i64 0]) ∧ w.heap.size ≤ g ∧ Row1 zs (fun i => sumF (fun j => ratOf ((M.getD i []).getD j q0) * ratOf (xs.getD j q0)) (M.getD 0 []).length) M.length ((M.getD 0 []).length * (k + k + 2)) ∧ Nums w' g M.length zs ∧ Chg [] w w' := by
  obtain ⟨s0, s1, s2, s3, s4⟩ := shapeE_ok hs
  obtain ⟨n, HN⟩ := name_it M.length
  obtain ⟨m, HM⟩ := name_it (M.getD 0 []).length
  rw [HN.out] at s0 s3
  rw [HM.out] at s1 s4 hl
  have hrow0 : ∀ i, i < n → (M.getD i []).length = m := fun i hi => by rw [← HM.out]; exact s2 i (by rw [HN.out]; exact hi)
  have hfit0 : ∀ i, i < n → ∀ j, j < m → fits ((M.getD i []).getD j q0) k := fun i hi j hj => hfit i (by rw [HN.out]; exact hi) j (by rw [HM.out]; exact hj)
  have hfx0 : ∀ j, j < m → fits (xs.getD j q0) k := fun j hj => hfx j (by rw [HM.out]; exact hj)
  have HROW := Lib.hid hrow0
  have HFIT := Lib.hid hfit0
  have HFX := Lib.hid hfx0
  have HSH := Lib.hid hs
  have HX := Lib.hid hx
  have HB := Lib.hid hb
  obtain ⟨ga, oa, rfl, hga⟩ := hx.form (by rw [HN.out]; omega)
  obtain ⟨gb, ob, rfl, hgb⟩ := hb.form (by omega)
  obtain ⟨B0, cr0, h0, _, _, _⟩ := hx.at_ (i := 0) (by rw [HN.out]; omega)
  rw [Nat.add_zero, HM.out] at h0
  have HC0 := Lib.hid h0
  have HXL := Lib.hid hl
  have hch : Chg [] w w := Chg.refl _ _
  clear h0 hx hb hs s2 hrow0 hfit0 hfx0 hfit hfx
  rw [HN.out, HM.out, hl]
  have hmk : m * (k + k + 2) ≤ 16 * 6002 := Nat.mul_le_mul s4 (by omega)
  obtain ⟨mk, HMK⟩ := name_it (m * (k + k + 2))
  rw [HMK.out] at hmk
  rw [HMK.out]
  clear hl
  go_enter Try.func23, Try.ntmps23
  go_wp2_with fail
  rw [← HN.out]
  refine (check_any M _ cap _ (by rw [HN.out]; omega) HX.out).mono ?_
  rintro e w1 ⟨rfl, c1⟩
  rw [HSH.out, HN.out]
  replace hch := hch.then c1
  clear c1
  have c0 := (hch.cell (p := ⟨ga, oa, none⟩) hga (by simp)).trans HC0.out
  have n1 : (0 : Int) < (n : Int) := by omega
  have n2 : n ≤ 1000000 := by omega
  have n3 : m ≤ 1000000 := by omega
  go_wp2_with (at_make; refine wpList_make3 _ rfl (.tmp 25) (.tmp 25) rfl _ _ n rfl rfl rfl rfl n2 ?_)
  intro w2 hy c1
  obtain ⟨g, HG⟩ := name_it w1.heap.size
  rw [HG.out] at hy
  try rw [HG.out]
  have hgw : w.heap.size ≤ g := by rw [← HG.out]; exact hch.size
  replace hch := hch.then c1
  clear c1 c0
  go_wp2_with fail
  go_loopw [29] (fun iv wr => ∃ (i : Nat) (ys : List Q3), i ≤ n ∧ iv = .int .i64 i ∧ ys.length = n ∧ (∀ t, t < i → Val (ys.getD t q0) (sumF (fun j => ratOf ((M.getD t []).getD j q0) * ratOf (xs.getD j q0)) m) mk) ∧ Nums wr g n ys ∧ Chg [] w wr) (fun iv _ => n - (intOf iv).toNat)
  case atStart => exact ⟨0, _, Nat.zero_le _, rfl, by simp, fun t h => absurd h (by omega), hy, hch⟩
  case round =>
    clear hy hch
    obtain ⟨i, ys, hi, rfl, hly, hval, hy, hch⟩ := hrel
    have HVAL := Lib.hid hval
    clear hval
    by_cases hlt : i < n
    · obtain ⟨Br, cr, d0, hc1, hc2, hr⟩ := (HX.out.keep0 hch).at_ (i := i) (by rw [HN.out]; exact hlt)
      have hrl := HROW.out i hlt
      have HF := Lib.hid (HFIT.out i hlt)
      obtain ⟨row, HRW⟩ := name_it (M.getD i [])
      rw [HRW.out] at d0 hr hrl hc1 HF
      rw [hrl] at d0
      obtain ⟨gr, orr, rfl, hgr⟩ := hr.form (by omega)
      have i1 : (0 : Int) ≤ (i : Int) := by omega
      have i2 : (i : Int) < (n : Int) := by omega
      go_wp2_with (at_make; refine wpList_make3 _ rfl (.tmp 35) (.tmp 35) rfl _ _ m rfl rfl rfl rfl n3 ?_)
      intro w3 hz c1
      have hgy := hy.lt
      have hgh := hch.size
      obtain ⟨gi, HGI⟩ := name_it wr.heap.size
      rw [HGI.out] at hz hgr hgy hgh
      try rw [HGI.out]
      replace hy := hy.keep c1 (by simp)
      replace hr := hr.keep0 c1
      replace hch := hch.then c1
      clear c1 d0
      go_wp2_with fail
      go_loopw [39] (fun jv wr => ∃ (j : Nat) (zs : List Q3), j ≤ m ∧ jv = .int .i64 j ∧ zs.length = m ∧ (∀ t, t < j → Val (zs.getD t q0) (ratOf (row.getD t q0) * ratOf (xs.getD t q0)) (k + k)) ∧ Nums wr gi m zs ∧ Nums wr g n ys ∧ Rds wr (some ⟨gr, orr, none⟩) row ∧ Chg [] w wr) (fun jv _ => m - (intOf jv).toNat)
      case atStart => exact ⟨0, _, Nat.zero_le _, rfl, by simp, fun t h => absurd h (by omega), hz, hy, hr, hch⟩
      case round =>
        clear hz hy hr hch
        obtain ⟨j, zs, hj, rfl, hlz, hinv, hz, hy, hr, hch⟩ := hrel
        have HINV := Lib.hid hinv
        clear hinv
        by_cases hjm : j < m
        · have e1 := hr.el (j := j) (by omega)
          have e2 := (HB.out.keep0 hch).el (j := j) (by rw [HXL.out]; exact hjm)
          have f1 := HF.out j hjm
          have f2 := HFX.out j hjm
          obtain ⟨x, HXX⟩ := name_it (row.getD j q0)
          obtain ⟨y, HYY⟩ := name_it (xs.getD j q0)
          rw [HXX.out] at e1 f1
          rw [HYY.out] at e2 f2
          have x0 := e1.a
          have x1 := e1.b
          have x2 := e1.c
          have y0 := e2.a
          have y1 := e2.b
          have y2 := e2.c
          have nx : Num x (ratOf x) k := ⟨rfl, f1, hk⟩
          have ny : Num y (ratOf y) k := ⟨rfl, f2, hk⟩
          obtain ⟨p, HP⟩ := name_it (ratOf x)
          obtain ⟨q, HQ⟩ := name_it (ratOf y)
          rw [HP.out] at nx
          rw [HQ.out] at ny
          have j1 : (0 : Int) ≤ (j : Int) := by omega
          have j2 : (j : Int) < (m : Int) := by omega
          have ex := e1
          have ey := e2
          clear e1 e2 hj f1 f2
          go_wp2_with fail
          clear x0 x1 x2 y0 y1 y2
          have c8 : Chg [] wr wr.drew := (Chg.refl _ _).drew
          replace ex := ex.keep0 c8
          replace ey := ey.keep0 c8
          replace hz := hz.keep c8 (by simp)
          replace hy := hy.keep c8 (by simp)
          replace hr := hr.keep0 c8
          replace hch := hch.then c8
          clear c8
          go_region_held3 (fun w' => w'.cell? ⟨gr, orr + j * 3, none⟩ = some (.bool x.neg) ∧ w'.cell? ⟨gr, orr + j * 3 + 1, none⟩ = some (.string x.num) ∧ w'.cell? ⟨gr, orr + j * 3 + 2, none⟩ = some (.string x.den) ∧ w'.cell? ⟨gb, ob + j * 3, none⟩ = some (.bool y.neg) ∧ w'.cell? ⟨gb, ob + j * 3 + 1, none⟩ = some (.string y.num) ∧ w'.cell? ⟨gb, ob + j * 3 + 2, none⟩ = some (.string y.den)) (first | exact ⟨ex.a, ex.b, ex.c, ey.a, ey.b, ey.c⟩ | exact ⟨(ex.st (by omega) _ _ _).a, (ex.st (by omega) _ _ _).b, (ex.st (by omega) _ _ _).c, (ey.st (by omega) _ _ _).a, (ey.st (by omega) _ _ _).b, (ey.st (by omega) _ _ _).c⟩) (first
              | (go_at_call 41
                 (with_reducible refine (MultiplyN x y p q k k _ nx ny (by omega)).mono ?_)
                 rintro e w9 ⟨z, rfl, hzv, c1⟩
                 replace ex := ex.keep0 c1
                 replace ey := ey.keep0 c1
                 replace hz := hz.keep c1 (by simp)
                 replace hy := hy.keep c1 (by simp)
                 replace hr := hr.keep0 c1
                 replace hch := hch.then c1
                 clear c1
                 obtain ⟨s0, s1, s2⟩ := hz.rds.zero_at (j := j) (by omega)
                 have s3 := hz.frozen (j * 3)
                 have s4 := hz.frozen (j * 3 + 1)
                 have s5 := hz.frozen (j * 3 + 2)))
          all_goals
            have HNX := Lib.hid (nums_set (P := fun t z => Val z (ratOf (row.getD t q0) * ratOf (xs.getD t q0)) (k + k)) (z := z) (by omega : j < zs.length) HINV.out (by rw [HXX.out, HYY.out, HP.out, HQ.out]; exact hzv))
            clear hzv
            go_wp2_with fail
            go_roundw
            case rel => exact ⟨j + 1, zs.set j z, by omega, by go_num, by rw [List.length_set]; exact hlz, HNX.out, hz.store (by omega) z, hy.keep ((Chg.refl [gi] _).store3o (.inl (by simp)) _ _ _) (by simp; omega), hr.sto (by omega) _ _ _, hch.store3o (.inr (by omega)) _ _ _⟩
            case measure => simp [intOf]; omega
        · obtain rfl : j = m := by omega
          have RW := Lib.hid (show Row1 zs (fun t => ratOf (row.getD t q0) * ratOf (xs.getD t q0)) j (k + k) from ⟨hlz, HINV.out⟩)
          have hzr := hz.rds
          go_wp2_with fail
          refine (Sum_upto j j (by omega) (Nat.le_refl _) zs _ j (k + k) _ hlz RW.out.fits (by omega) (Nat.le_refl _) (by omega) (by rw [HMK.out]; omega) hzr).mono ?_
          rintro e w4 ⟨z, rfl, hzv, c1⟩
          replace hy := hy.keep c1 (by simp)
          replace hch := hch.then c1
          clear c1 hz hr hzr
          rw [sumQ_row RW.out, HMK.out, ← HRW.out] at hzv
          have HNX := Lib.hid (nums_set (P := fun t z => Val z (sumF (fun u => ratOf ((M.getD t []).getD u q0) * ratOf (xs.getD u q0)) j) mk) (z := z) (by omega : i < ys.length) HVAL.out (hzv.mono (by omega)))
          obtain ⟨s0, s1, s2⟩ := hy.rds.zero_at (j := i) (by omega)
          have s3 := hy.frozen (i * 3)
          have s4 := hy.frozen (i * 3 + 1)
          have s5 := hy.frozen (i * 3 + 2)
          clear hzv
          go_wp2_with fail
          go_roundw
          case rel => exact ⟨i + 1, ys.set i z, by omega, by go_num, by rw [List.length_set]; exact hly, HNX.out, hy.store (by omega) z, hch.store3o (.inr hgw) _ _ _⟩
          case measure => simp [intOf]; omega
    · obtain rfl : i = n := by omega
      go_wp2_with fail
      go_ret2
      exact ⟨g, ys, rfl, hgw, ⟨hly, HVAL.out⟩, hy, hch⟩

end Go.Proofs.Ytnbajendnknejaa
