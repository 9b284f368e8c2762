/-
  Several parts put together: LX10, LX11, LX12, LX13.
-/
import Derived.Test.YtpaochhaenehmaaGW
import Derived.Test.YtpaochhaenehmaaGQ
/- Part LX10. -/

namespace Go.Proofs.Ytpaochhaenehmaa
open Go.RowKit Nd
/-- The sum of the first values. -/
def sumF (p : Nat → Rat) : Nat → Rat
  | 0 => 0
  | j + 1 => sumF p j + p j
theorem sumQ_row {xs : List Q3} {p : Nat → Rat} {m k : Nat} (h : Row1 xs p m k) : sumQ xs = sumF p m := by
  have key : ∀ j, j ≤ m → sumQ (xs.take j) = sumF p j := by
    intro j
    induction j with
    | zero => intro _; simp [sumQ, sumF]
    | succ j ih =>
      intro hj
      rw [sumQ_snoc xs (by rw [h.len]; omega), ih (by omega), (h.val j (by omega)).num.rat, sumF]
  have := key m (Nat.le_refl _)
  rwa [List.take_of_length_le (by rw [h.len]; exact Nat.le_refl _)] at this
theorem Row1.fits {xs : List Q3} {p : Nat → Rat} {m k : Nat} (h : Row1 xs p m k) : ∀ x ∈ xs, fits x k := by
  intro x hx
  obtain ⟨j, hj, rfl⟩ := List.getElem_of_mem hx
  have := (h.val j (by rw [← h.len]; exact hj)).num.fit
  rwa [List.getD_eq_getElem?_getD, List.getElem?_eq_getElem hj, Option.getD_some] at this

set_option maxRecDepth 20000 in
set_option maxHeartbeats 1000000 in
theorem Apply_bad (M : List (List Q3)) (xs : List Q3) (A B : Option Addr) (cap cb : Nat) (w : World) (hn : M.length ≤ 1000000) (hx : Mtx w A M) (hs : shapeE M ≠ 0) :
    Calls Try.prog 14 #[.slice A M.length cap, .slice B xs.length cb] w fun e w' => e = .returned (.tuple #[.slice none 0 0, .int .i64 (shapeE M : Nat)]) ∧ Chg [] w w' := by
  obtain ⟨s, HS⟩ := name_it (shapeE M)
  rw [HS.out] at hs
  rw [HS.out]
  have hs1 : ((s : Int) != 0) = true := by simp; omega
  go_enter Try.func14, Try.ntmps14
  go_wp2_with fail
  refine (check_any M A cap _ hn hx).mono ?_
  rintro e w1 ⟨rfl, c1⟩
  rw [HS.out]
  go_wp2_with fail
  go_ret2
  exact ⟨rfl, c1⟩

set_option maxRecDepth 20000 in
set_option maxHeartbeats 1000000 in
theorem Apply_len (M : List (List Q3)) (xs : List Q3) (A B : Option Addr) (cap cb : Nat) (w : World) (_ : M.length ≤ 1000000) (hx : Mtx w A M) (hs : shapeE M = 0) (hl : xs.length ≠ (M.getD 0 []).length) :
    Calls Try.prog 14 #[.slice A M.length cap, .slice B xs.length cb] w fun e w' => e = .returned (.tuple #[.slice none 0 0, .int .i64 4]) ∧ Chg [] w w' := by
  obtain ⟨s0, s1, s2, s3, s4⟩ := shapeE_ok hs
  obtain ⟨n, HN⟩ := name_it M.length
  obtain ⟨m, HM⟩ := name_it (M.getD 0 []).length
  rw [HN.out] at s0 s3
  rw [HM.out] at s1 s4 hl
  obtain ⟨l, HL⟩ := name_it xs.length
  rw [HL.out] at hl
  rw [HL.out]
  have hl1 : ((l : Int) != (m : Int)) = true := by simp; omega
  have HX := Lib.hid hx
  obtain ⟨ga, oa, rfl, hga⟩ := hx.form (by rw [HN.out]; omega)
  obtain ⟨B0, cr0, h0, _, _, _⟩ := hx.at_ (i := 0) (by rw [HN.out]; omega)
  rw [Nat.add_zero, HM.out] at h0
  have HC0 := Lib.hid h0
  have HSH := Lib.hid hs
  have hch : Chg [] w w := Chg.refl _ _
  clear h0 hx hs s2
  rw [HN.out]
  go_enter Try.func14, Try.ntmps14
  go_wp2_with fail
  rw [← HN.out]
  refine (check_any M _ cap _ (by rw [HN.out]; omega) HX.out).mono ?_
  rintro e w1 ⟨rfl, c1⟩
  rw [HSH.out, HN.out]
  replace hch := hch.then c1
  clear c1
  have c0 := (hch.cell (p := ⟨ga, oa, none⟩) hga (by simp)).trans HC0.out
  have n1 : (0 : Int) < (n : Int) := by omega
  go_wp2_with fail
  go_ret2
  exact ⟨rfl, hch⟩

set_option maxRecDepth 20000 in
set_option maxHeartbeats 4000000 in
theorem Apply_ok (M : List (List Q3)) (xs : List Q3) (A B : Option Addr) (cap cb : Nat) (k : Nat) (w : World) (_ : M.length ≤ 1000000) (hx : Mtx w A M) (hb : Rds w B xs) (hs : shapeE M = 0) (hl : xs.length = (M.getD 0 []).length) (hk : 1 ≤ k) (hk2 : k ≤ 3000) (hfit : ∀ i, i < M.length → ∀ j, j < (M.getD 0 []).length → fits ((M.getD i []).getD j q0) k) (hfx : ∀ j, j < (M.getD 0 []).length → fits (xs.getD j q0) k) :
    Calls Try.prog 14 #[.slice A M.length cap, .slice B xs.length cb] w fun e w' => ∃ g zs, e = .returned (.tuple #[.slice (some ⟨g, 0, none⟩) M.length M.length, .int .i64 0]) ∧ w.heap.size ≤ g ∧ Row1 zs (fun i => sumF (fun j => ratOf ((M.getD i []).getD j q0) * ratOf (xs.getD j q0)) (M.getD 0 []).length) M.length ((M.getD 0 []).length * (k + k + 2)) ∧ Nums w' g M.length zs ∧ Chg [] w w' := by
  obtain ⟨s0, s1, s2, s3, s4⟩ := shapeE_ok hs
  obtain ⟨n, HN⟩ := name_it M.length
  obtain ⟨m, HM⟩ := name_it (M.getD 0 []).length
  rw [HN.out] at s0 s3
  rw [HM.out] at s1 s4 hl
  have hrow0 : ∀ i, i < n → (M.getD i []).length = m := fun i hi => by rw [← HM.out]; exact s2 i (by rw [HN.out]; exact hi)
  have hfit0 : ∀ i, i < n → ∀ j, j < m → fits ((M.getD i []).getD j q0) k := fun i hi j hj => hfit i (by rw [HN.out]; exact hi) j (by rw [HM.out]; exact hj)
  have hfx0 : ∀ j, j < m → fits (xs.getD j q0) k := fun j hj => hfx j (by rw [HM.out]; exact hj)
  have HROW := Lib.hid hrow0
  have HFIT := Lib.hid hfit0
  have HFX := Lib.hid hfx0
  have HSH := Lib.hid hs
  have HX := Lib.hid hx
  have HB := Lib.hid hb
  obtain ⟨ga, oa, rfl, hga⟩ := hx.form (by rw [HN.out]; omega)
  obtain ⟨gb, ob, rfl, hgb⟩ := hb.form (by omega)
  obtain ⟨B0, cr0, h0, _, _, _⟩ := hx.at_ (i := 0) (by rw [HN.out]; omega)
  rw [Nat.add_zero, HM.out] at h0
  have HC0 := Lib.hid h0
  have HXL := Lib.hid hl
  have hch : Chg [] w w := Chg.refl _ _
  clear h0 hx hb hs s2 hrow0 hfit0 hfx0 hfit hfx
  rw [HN.out, HM.out, hl]
  have hmk : m * (k + k + 2) ≤ 16 * 6002 := Nat.mul_le_mul s4 (by omega)
  obtain ⟨mk, HMK⟩ := name_it (m * (k + k + 2))
  rw [HMK.out] at hmk
  rw [HMK.out]
  clear hl
  go_enter Try.func14, Try.ntmps14
  go_wp2_with fail
  rw [← HN.out]
  refine (check_any M _ cap _ (by rw [HN.out]; omega) HX.out).mono ?_
  rintro e w1 ⟨rfl, c1⟩
  rw [HSH.out, HN.out]
  replace hch := hch.then c1
  clear c1
  have c0 := (hch.cell (p := ⟨ga, oa, none⟩) hga (by simp)).trans HC0.out
  have n1 : (0 : Int) < (n : Int) := by omega
  have n2 : n ≤ 1000000 := by omega
  have n3 : m ≤ 1000000 := by omega
  go_wp2_with (at_make; refine wpList_make3 _ rfl (.tmp 25) (.tmp 25) rfl _ _ n rfl rfl rfl rfl n2 ?_)
  intro w2 hy c1
  obtain ⟨g, HG⟩ := name_it w1.heap.size
  rw [HG.out] at hy
  try rw [HG.out]
  have hgw : w.heap.size ≤ g := by rw [← HG.out]; exact hch.size
  replace hch := hch.then c1
  clear c1 c0
  go_wp2_with fail
  go_loopw [29] (fun iv wr => ∃ (i : Nat) (ys : List Q3), i ≤ n ∧ iv = .int .i64 i ∧ ys.length = n ∧ (∀ t, t < i → Val (ys.getD t q0) (sumF (fun j => ratOf ((M.getD t []).getD j q0) * ratOf (xs.getD j q0)) m) mk) ∧ Nums wr g n ys ∧ Chg [] w wr) (fun iv _ => n - (intOf iv).toNat)
  case atStart => exact ⟨0, _, Nat.zero_le _, rfl, by simp, fun t h => absurd h (by omega), hy, hch⟩
  case round =>
    clear hy hch
    obtain ⟨i, ys, hi, rfl, hly, hval, hy, hch⟩ := hrel
    have HVAL := Lib.hid hval
    clear hval
    by_cases hlt : i < n
    · obtain ⟨Br, cr, d0, hc1, hc2, hr⟩ := (HX.out.keep0 hch).at_ (i := i) (by rw [HN.out]; exact hlt)
      have hrl := HROW.out i hlt
      have HF := Lib.hid (HFIT.out i hlt)
      obtain ⟨row, HRW⟩ := name_it (M.getD i [])
      rw [HRW.out] at d0 hr hrl hc1 HF
      rw [hrl] at d0
      obtain ⟨gr, orr, rfl, hgr⟩ := hr.form (by omega)
      have i1 : (0 : Int) ≤ (i : Int) := by omega
      have i2 : (i : Int) < (n : Int) := by omega
      go_wp2_with (at_make; refine wpList_make3 _ rfl (.tmp 35) (.tmp 35) rfl _ _ m rfl rfl rfl rfl n3 ?_)
      intro w3 hz c1
      have hgy := hy.lt
      have hgh := hch.size
      obtain ⟨gi, HGI⟩ := name_it wr.heap.size
      rw [HGI.out] at hz hgr hgy hgh
      try rw [HGI.out]
      replace hy := hy.keep c1 (by simp)
      replace hr := hr.keep0 c1
      replace hch := hch.then c1
      clear c1 d0
      go_wp2_with fail
      go_loopw [39] (fun jv wr => ∃ (j : Nat) (zs : List Q3), j ≤ m ∧ jv = .int .i64 j ∧ zs.length = m ∧ (∀ t, t < j → Val (zs.getD t q0) (ratOf (row.getD t q0) * ratOf (xs.getD t q0)) (k + k)) ∧ Nums wr gi m zs ∧ Nums wr g n ys ∧ Rds wr (some ⟨gr, orr, none⟩) row ∧ Chg [] w wr) (fun jv _ => m - (intOf jv).toNat)
      case atStart => exact ⟨0, _, Nat.zero_le _, rfl, by simp, fun t h => absurd h (by omega), hz, hy, hr, hch⟩
      case round =>
        clear hz hy hr hch
        obtain ⟨j, zs, hj, rfl, hlz, hinv, hz, hy, hr, hch⟩ := hrel
        have HINV := Lib.hid hinv
        clear hinv
        by_cases hjm : j < m
        · have e1 := hr.el (j := j) (by omega)
          have e2 := (HB.out.keep0 hch).el (j := j) (by rw [HXL.out]; exact hjm)
          have f1 := HF.out j hjm
          have f2 := HFX.out j hjm
          obtain ⟨x, HXX⟩ := name_it (row.getD j q0)
          obtain ⟨y, HYY⟩ := name_it (xs.getD j q0)
          rw [HXX.out] at e1 f1
          rw [HYY.out] at e2 f2
          have x0 := e1.a
          have x1 := e1.b
          have x2 := e1.c
          have y0 := e2.a
          have y1 := e2.b
          have y2 := e2.c
          have nx : Num x (ratOf x) k := ⟨rfl, f1, hk⟩
          have ny : Num y (ratOf y) k := ⟨rfl, f2, hk⟩
          obtain ⟨p, HP⟩ := name_it (ratOf x)
          obtain ⟨q, HQ⟩ := name_it (ratOf y)
          rw [HP.out] at nx
          rw [HQ.out] at ny
          have j1 : (0 : Int) ≤ (j : Int) := by omega
          have j2 : (j : Int) < (m : Int) := by omega
          have ex := e1
          have ey := e2
          clear e1 e2 hj f1 f2
          go_wp2_with fail
          clear x0 x1 x2 y0 y1 y2
          have c8 : Chg [] wr wr.drew := (Chg.refl _ _).drew
          replace ex := ex.keep0 c8
          replace ey := ey.keep0 c8
          replace hz := hz.keep c8 (by simp)
          replace hy := hy.keep c8 (by simp)
          replace hr := hr.keep0 c8
          replace hch := hch.then c8
          clear c8
          go_region_held3 (fun w' => w'.cell? ⟨gr, orr + j * 3, none⟩ = some (.bool x.neg) ∧ w'.cell? ⟨gr, orr + j * 3 + 1, none⟩ = some (.string x.num) ∧ w'.cell? ⟨gr, orr + j * 3 + 2, none⟩ = some (.string x.den) ∧ w'.cell? ⟨gb, ob + j * 3, none⟩ = some (.bool y.neg) ∧ w'.cell? ⟨gb, ob + j * 3 + 1, none⟩ = some (.string y.num) ∧ w'.cell? ⟨gb, ob + j * 3 + 2, none⟩ = some (.string y.den)) (first | exact ⟨ex.a, ex.b, ex.c, ey.a, ey.b, ey.c⟩ | exact ⟨(ex.st (by omega) _ _ _).a, (ex.st (by omega) _ _ _).b, (ex.st (by omega) _ _ _).c, (ey.st (by omega) _ _ _).a, (ey.st (by omega) _ _ _).b, (ey.st (by omega) _ _ _).c⟩) (first
              | (go_at_call 18
                 (with_reducible refine (MultiplyN x y p q k k _ nx ny (by omega)).mono ?_)
                 rintro e w9 ⟨z, rfl, hzv, c1⟩
                 replace ex := ex.keep0 c1
                 replace ey := ey.keep0 c1
                 replace hz := hz.keep c1 (by simp)
                 replace hy := hy.keep c1 (by simp)
                 replace hr := hr.keep0 c1
                 replace hch := hch.then c1
                 clear c1
                 obtain ⟨s0, s1, s2⟩ := hz.rds.zero_at (j := j) (by omega)
                 have s3 := hz.frozen (j * 3)
                 have s4 := hz.frozen (j * 3 + 1)
                 have s5 := hz.frozen (j * 3 + 2)))
          all_goals
            have HNX := Lib.hid (nums_set (P := fun t z => Val z (ratOf (row.getD t q0) * ratOf (xs.getD t q0)) (k + k)) (z := z) (by omega : j < zs.length) HINV.out (by rw [HXX.out, HYY.out, HP.out, HQ.out]; exact hzv))
            clear hzv
            go_wp2_with fail
            go_roundw
            case rel => exact ⟨j + 1, zs.set j z, by omega, by go_num, by rw [List.length_set]; exact hlz, HNX.out, hz.store (by omega) z, hy.keep ((Chg.refl [gi] _).store3o (.inl (by simp)) _ _ _) (by simp; omega), hr.sto (by omega) _ _ _, hch.store3o (.inr (by omega)) _ _ _⟩
            case measure => simp [intOf]; omega
        · obtain rfl : j = m := by omega
          have RW := Lib.hid (show Row1 zs (fun t => ratOf (row.getD t q0) * ratOf (xs.getD t q0)) j (k + k) from ⟨hlz, HINV.out⟩)
          have hzr := hz.rds
          go_wp2_with fail
          refine (Sum_upto j j (by omega) (Nat.le_refl _) zs _ j (k + k) _ hlz RW.out.fits (by omega) (Nat.le_refl _) (by omega) (by rw [HMK.out]; omega) hzr).mono ?_
          rintro e w4 ⟨z, rfl, hzv, c1⟩
          replace hy := hy.keep c1 (by simp)
          replace hch := hch.then c1
          clear c1 hz hr hzr
          rw [sumQ_row RW.out, HMK.out, ← HRW.out] at hzv
          have HNX := Lib.hid (nums_set (P := fun t z => Val z (sumF (fun u => ratOf ((M.getD t []).getD u q0) * ratOf (xs.getD u q0)) j) mk) (z := z) (by omega : i < ys.length) HVAL.out (hzv.mono (by omega)))
          obtain ⟨s0, s1, s2⟩ := hy.rds.zero_at (j := i) (by omega)
          have s3 := hy.frozen (i * 3)
          have s4 := hy.frozen (i * 3 + 1)
          have s5 := hy.frozen (i * 3 + 2)
          clear hzv
          go_wp2_with fail
          go_roundw
          case rel => exact ⟨i + 1, ys.set i z, by omega, by go_num, by rw [List.length_set]; exact hly, HNX.out, hy.store (by omega) z, hch.store3o (.inr hgw) _ _ _⟩
          case measure => simp [intOf]; omega
    · obtain rfl : i = n := by omega
      go_wp2_with fail
      go_ret2
      exact ⟨g, ys, rfl, hgw, ⟨hly, HVAL.out⟩, hy, hch⟩

end Go.Proofs.Ytpaochhaenehmaa

/- Part LX11. -/

namespace Go.Proofs.Ytpaochhaenehmaa
open Go.RowKit Nd
/-- What checkSquare answers. -/
def squareE (M : List (List Q3)) : Nat := if shapeE M ≠ 0 then shapeE M else if M.length ≠ (M.getD 0 []).length then 4 else 0
theorem squareE_ok {M : List (List Q3)} (h : squareE M = 0) : shapeE M = 0 ∧ M.length = (M.getD 0 []).length := by
  unfold squareE at h
  split at h
  · omega
  · split at h
    · omega
    · exact ⟨by omega, by omega⟩
theorem squareE_bad {M : List (List Q3)} (h : shapeE M ≠ 0) : squareE M = shapeE M := by unfold squareE; rw [if_pos h]
theorem squareE_four {M : List (List Q3)} (h : shapeE M = 0) (h2 : M.length ≠ (M.getD 0 []).length) : squareE M = 4 := by
  unfold squareE; rw [if_neg (by omega), if_pos h2]
theorem squareE_zero {M : List (List Q3)} (h : shapeE M = 0) (h2 : M.length = (M.getD 0 []).length) : squareE M = 0 := by
  unfold squareE; rw [if_neg (by omega), if_neg (by omega)]

set_option maxRecDepth 20000 in
set_option maxHeartbeats 2000000 in
theorem checkSquare_any (M : List (List Q3)) (A : Option Addr) (cap : Nat) (w : World) (hn : M.length ≤ 1000000) (hx : Mtx w A M) :
    Calls Try.prog 23 #[.slice A M.length cap] w fun e w' => e = .returned (.int .i64 (squareE M : Nat)) ∧ Chg [] w w' := by
  have HN0 := Lib.hid hn
  by_cases hs : shapeE M = 0
  · obtain ⟨s0, s1, s2, s3, s4⟩ := shapeE_ok hs
    obtain ⟨ga, oa, rfl, hga⟩ := hx.form (by omega)
    obtain ⟨B0, cr0, h0, _, _, _⟩ := hx.at_ (i := 0) (by omega)
    obtain ⟨sq, HSQ⟩ := name_it (squareE M)
    have HSQ2 := Lib.hid (show shapeE M = 0 → (M.length ≠ (M.getD 0 []).length → squareE M = 4) ∧ (M.length = (M.getD 0 []).length → squareE M = 0) from fun h => ⟨squareE_four h, squareE_zero h⟩)
    obtain ⟨n, HN⟩ := name_it M.length
    obtain ⟨m, HM⟩ := name_it (M.getD 0 []).length
    have HSQ3 := HSQ2.out hs
    rw [HN.out, HM.out, HSQ.out] at HSQ3
    rw [HN.out] at s0 s3
    rw [HM.out] at s1 s4
    rw [Nat.add_zero, HM.out] at h0
    have HC0 := Lib.hid h0
    have HSH := Lib.hid hs
    have HX := Lib.hid hx
    have hch : Chg [] w w := Chg.refl _ _
    clear h0 hx hs s2 hn
    rw [HN.out, HSQ.out]
    have HQ := Lib.hid HSQ3
    clear HSQ3
    go_enter Try.func23, Try.ntmps23
    go_wp2_with fail
    rw [← HN.out]
    refine (check_any M _ cap _ HN0.out HX.out).mono ?_
    rintro e w1 ⟨rfl, c1⟩
    rw [HSH.out, HN.out]
    replace hch := hch.then c1
    clear c1
    have c0 := (hch.cell (p := ⟨ga, oa, none⟩) hga (by simp)).trans HC0.out
    have n1 : (0 : Int) < (n : Int) := by omega
    by_cases he : n = m
    · have e1 : ((n : Int) != (m : Int)) = false := by simp; omega
      have hq := HQ.out.2 he
      subst hq
      go_wp2_with fail
      go_ret
      exact ⟨rfl, hch⟩
    · have e1 : ((n : Int) != (m : Int)) = true := by simp; omega
      have hq := HQ.out.1 he
      subst hq
      go_wp2_with fail
      go_ret
      exact ⟨rfl, hch⟩
  · rw [squareE_bad hs]
    obtain ⟨s, HS⟩ := name_it (shapeE M)
    rw [HS.out] at hs
    rw [HS.out]
    have hs1 : ((s : Int) != 0) = true := by simp; omega
    go_enter Try.func23, Try.ntmps23
    go_wp2_with fail
    refine (check_any M A cap _ hn hx).mono ?_
    rintro e w1 ⟨rfl, c1⟩
    rw [HS.out]
    go_wp2_with fail
    go_ret
    exact ⟨rfl, c1⟩

set_option maxRecDepth 20000 in
set_option maxHeartbeats 1000000 in
theorem Determinant_bad (M : List (List Q3)) (A : Option Addr) (cap : Nat) (w : World) (hn : M.length ≤ 1000000) (hx : Mtx w A M) (hs : squareE M ≠ 0) :
    Calls Try.prog 8 #[.slice A M.length cap] w fun e w' => e = .returned (.tuple #[.agg #[.bool false, .string ⟨#[]⟩, .string ⟨#[]⟩], .int .i64 (squareE M : Nat)]) ∧ Chg [] w w' := by
  obtain ⟨s, HS⟩ := name_it (squareE M)
  rw [HS.out] at hs
  rw [HS.out]
  have hs1 : ((s : Int) != 0) = true := by simp; omega
  have b1 := Blk3.alloc w (.bool false) (.string ⟨#[]⟩) (.string ⟨#[]⟩) 26
  have hch : Chg [] w (w.alloc (.cells #[.bool false, .string ⟨#[]⟩, .string ⟨#[]⟩] 26)) := (Chg.refl _ _).alloc _
  have hgl := b1.lt
  go_enter Try.func8, Try.ntmps8
  go_wp2_with fail
  refine (checkSquare_any M A cap _ hn (hx.keep0 hch)).mono ?_
  rintro e w1 ⟨rfl, c1⟩
  rw [HS.out]
  replace b1 := b1.keep c1 (by simp)
  replace hch := hch.then c1
  clear c1
  have b1c0 := b1.c0
  have b1c1 := b1.c1
  have b1c2 := b1.c2
  have b1f0 := b1.f0
  have b1f1 := b1.f1
  have b1f2 := b1.f2
  have b1l := b1.lt
  have S := b1.store (.bool false) (.string ⟨#[]⟩) (.string ⟨#[]⟩)
  have SC := b1
  go_wp2_with fail
  first
    | exact bodyPost_ret (v := .tuple #[.agg #[.bool false, .string ⟨#[]⟩, .string ⟨#[]⟩], .int .i64 (s : Nat)]) (by simp [results, Try.results8, go_sem, S.c0, S.c1, S.c2]) rfl ⟨rfl, hch.store3o (.inr (Nat.le_refl _)) _ _ _⟩
    | exact bodyPost_ret (v := .tuple #[.agg #[.bool false, .string ⟨#[]⟩, .string ⟨#[]⟩], .int .i64 (s : Nat)]) (by simp [results, Try.results8, go_sem, SC.c0, SC.c1, SC.c2]) rfl ⟨rfl, hch⟩

set_option maxRecDepth 20000 in
set_option maxHeartbeats 1000000 in
theorem Solve_bad (M : List (List Q3)) (xs : List Q3) (A B : Option Addr) (cap cb : Nat) (w : World) (hn : M.length ≤ 1000000) (hx : Mtx w A M) (hs : squareE M ≠ 0) :
    Calls Try.prog 13 #[.slice A M.length cap, .slice B xs.length cb] w fun e w' => e = .returned (.tuple #[.slice none 0 0, .int .i64 (squareE M : Nat)]) ∧ Chg [] w w' := by
  obtain ⟨s, HS⟩ := name_it (squareE M)
  rw [HS.out] at hs
  rw [HS.out]
  have hs1 : ((s : Int) != 0) = true := by simp; omega
  go_enter Try.func13, Try.ntmps13
  go_wp2_with fail
  refine (checkSquare_any M A cap _ hn hx).mono ?_
  rintro e w1 ⟨rfl, c1⟩
  rw [HS.out]
  go_wp2_with fail
  go_ret2
  exact ⟨rfl, c1⟩

set_option maxRecDepth 20000 in
set_option maxHeartbeats 1000000 in
theorem Solve_len (M : List (List Q3)) (xs : List Q3) (A B : Option Addr) (cap cb : Nat) (w : World) (hn : M.length ≤ 1000000) (hx : Mtx w A M) (hs : squareE M = 0) (hl : xs.length ≠ M.length) :
    Calls Try.prog 13 #[.slice A M.length cap, .slice B xs.length cb] w fun e w' => e = .returned (.tuple #[.slice none 0 0, .int .i64 4]) ∧ Chg [] w w' := by
  have HNN := Lib.hid hn
  have HS := Lib.hid hs
  have HX := Lib.hid hx
  obtain ⟨n, HN⟩ := name_it M.length
  obtain ⟨l, HL⟩ := name_it xs.length
  rw [HN.out, HL.out] at hl
  rw [HN.out, HL.out]
  have hl1 : ((l : Int) != (n : Int)) = true := by simp; omega
  clear hn hs hx
  go_enter Try.func13, Try.ntmps13
  go_wp2_with fail
  rw [← HN.out]
  refine (checkSquare_any M A cap _ HNN.out HX.out).mono ?_
  rintro e w1 ⟨rfl, c1⟩
  rw [HS.out, HN.out]
  go_wp2_with fail
  go_ret2
  exact ⟨rfl, c1⟩

end Go.Proofs.Ytpaochhaenehmaa

/- Part LX12. -/

namespace Go.Proofs.Ytpaochhaenehmaa
open Go.RowKit Nd
set_option maxRecDepth 20000 in
set_option maxHeartbeats 2000000 in
theorem rshape_any (M : List (List Q3)) (A : Option Addr) (cap : Nat) (w : World) (hn : M.length ≤ 1000000) (hx : Mtx w A M) :
    Calls Try.prog 27 #[.slice A M.length cap] w fun e w' => e = .returned (.int .i64 (shapeE M : Nat)) ∧ Chg [] w w' := by
  have hch : Chg [] w w := Chg.refl _ _
  obtain ⟨n, HN⟩ := name_it M.length
  obtain ⟨r, HR⟩ := name_it (shapeE M)
  rw [HR.out]
  rw [HN.out] at hn ⊢
  by_cases h0 : n = 0
  · have hr : r = 4 := by rw [← HR.out]; exact shapeE_none (HN.out.trans h0)
    subst hr h0
    clear HR
    go_enter Try.func27, Try.ntmps27
    go_wp2_with fail
    go_ret
    exact ⟨rfl, hch⟩
  · obtain ⟨g, o, rfl, hgl⟩ := hx.form (by rw [HN.out]; omega)
    obtain ⟨B, c, c0, hBc, _, hB⟩ := hx.at_ (i := 0) (by rw [HN.out]; omega)
    rw [Nat.add_zero] at c0
    obtain ⟨l, HL⟩ := name_it (M.getD 0 []).length
    rw [HL.out] at c0 hBc
    have hn0 : ((n : Int) == 0) = false := by simp; omega
    have hn1 : 0 < n := by omega
    have hn2 : (0 : Int) < (n : Int) := by omega
    have hb0 : Hid (0 < n → w.cell? ⟨g, o, none⟩ = some (.slice B l c)) := Lib.hid fun _ => c0
    clear hB
    go_enter Try.func27, Try.ntmps27
    go_wp2_with fail
    go_loopw [3] (fun iv wr => ∃ k : Nat, k ≤ n ∧ iv = .int .i64 k ∧ (∀ i, i < k → (M.getD i []).length = l) ∧ (0 < k → l ≠ 0) ∧ Mtx wr (some ⟨g, o, none⟩) M ∧ Chg [] w wr) (fun iv _ => n - (intOf iv).toNat)
    case atStart => exact ⟨0, Nat.zero_le _, rfl, fun i h => absurd h (by omega), fun h => absurd h (by omega), hx, hch⟩
    case round =>
      clear hx hch c0
      obtain ⟨k, hk, rfl, hall, hlz, hx, hch⟩ := hrel
      have ALL := Lib.hid hall
      have HLZ := Lib.hid hlz
      clear hall hlz
      have c0 : wr.cell? ⟨g, o, none⟩ = some (.slice B l c) := (hch.cell (p := ⟨g, o, none⟩) hgl (by simp)).trans (hb0.out hn1)
      by_cases hlt : k < n
      · obtain ⟨B2, c2, d0, _, _, _⟩ := hx.at_ (i := k) (by rw [HN.out]; exact hlt)
        obtain ⟨l2, HL2⟩ := name_it (M.getD k []).length
        rw [HL2.out] at d0
        have i1 : (0 : Int) ≤ (k : Int) := by omega
        have i2 : (k : Int) < (n : Int) := by omega
        by_cases hz : l2 = 0
        · have hr : r = 4 := by
            rw [← HR.out]
            by_cases hl0 : l = 0
            · exact shapeE_zero (HL.out.trans hl0)
            · exact shapeE_ne (i := k) (by rw [HN.out]; exact hlt) (by rw [HL2.out, HL.out]; omega)
          subst hr
          clear HR
          have hz1 : ((l2 : Int) == 0) = true := by simp; omega
          clear hz HL2
          go_wp2_with fail
          go_quiet (fail)
          go_wp2_with fail
          go_ret
          first | exact ⟨rfl, hch⟩ | exact ⟨rfl, hch.drewN _⟩
        · have hz1 : ((l2 : Int) == 0) = false := by simp; omega
          by_cases he : l2 = l
          · have HLN := Lib.hid hz
            subst he
            go_wp2_with fail
            go_quiet (fail)
            go_wp2_with fail
            go_roundw
            case rel => exact ⟨k + 1, by omega, by go_num, all_succ ALL.out HL2.out, fun _ => HLN.out, hx.keep0 ((Chg.refl [] _).drewN _), hch.drewN _⟩
            case measure => simp [intOf]; omega
          · have hr : r = 4 := by rw [← HR.out]; exact shapeE_ne (i := k) (by rw [HN.out]; exact hlt) (by rw [HL2.out, HL.out]; exact he)
            subst hr
            clear HR
            have he1 : ((l2 : Int) != (l : Int)) = true := by simp; omega
            have he2 : decide ((l2 : Int) = (l : Int)) = false := by simp; omega
            have he3 : decide (l2 = l) = false := by simp; omega
            go_wp2_with fail
            go_quiet (fail)
            go_wp2_with fail
            go_ret
            first | exact ⟨rfl, hch⟩ | exact ⟨rfl, hch.drewN _⟩
      · obtain rfl : k = n := by omega
        have hl0 : l ≠ 0 := HLZ.out hn1
        have hall : ∀ i, i < M.length → (M.getD i []).length = (M.getD 0 []).length := fun i hi => by rw [ALL.out i (by rw [← HN.out]; exact hi), HL.out]
        have HALL := Lib.hid hall
        clear hall
        by_cases h16 : 16 < k
        · have hr : r = 2 := by rw [← HR.out]; exact shapeE_long (by rw [HN.out]; exact h0) (by rw [HL.out]; exact hl0) HALL.out (.inl (by rw [HN.out]; exact h16))
          subst hr
          clear HR
          go_wp2_with fail
          go_ret
          exact ⟨rfl, hch⟩
        · by_cases hl16 : 16 < l
          · have hr : r = 2 := by rw [← HR.out]; exact shapeE_long (by rw [HN.out]; exact h0) (by rw [HL.out]; exact hl0) HALL.out (.inr (by rw [HL.out]; exact hl16))
            subst hr
            clear HR
            have t1 : decide ((16 : Int) < (k : Int)) = false := by simp; omega
            go_wp2_with fail
            go_ret
            exact ⟨rfl, hch⟩
          · have hr : r = 0 := by rw [← HR.out]; exact shapeE_good (by rw [HN.out]; exact h0) (by rw [HL.out]; exact hl0) HALL.out (by rw [HN.out]; omega) (by rw [HL.out]; omega)
            subst hr
            clear HR
            have t1 : decide ((16 : Int) < (k : Int)) = false := by simp; omega
            go_wp2_with fail
            go_ret
            exact ⟨rfl, hch⟩

end Go.Proofs.Ytpaochhaenehmaa

/- Part LX13. -/

namespace Go.Proofs.Ytpaochhaenehmaa
open Go.RowKit Nd
theorem nums_snoc {P : Nat → Q3 → Prop} {zs : List Q3} {i : Nat} {z : Q3} (hl : zs.length = i) (h : ∀ t, t < i → P t (zs.getD t q0)) (hz : P i z) : ∀ t, t < i + 1 → P t ((zs ++ [z]).getD t q0) := by
  intro t ht
  by_cases he : t = i
  · subst he; rw [List.getD_eq_getElem?_getD, List.getElem?_append_right (by omega)]; simpa [hl] using hz
  · have := h t (by omega)
    rw [List.getD_eq_getElem?_getD] at this ⊢
    rwa [List.getElem?_append_left (by omega)]
theorem rds_one (w : World) (z : Q3) : Rds (w.alloc (.cells #[.bool z.neg, .string z.num, .string z.den] 26)) (some ⟨w.heap.size, 0, none⟩) [z] := by
  have b := Blk3.alloc w (.bool z.neg) (.string z.num) (.string z.den) 26
  intro _
  refine ⟨_, 0, rfl, b.lt, fun j hj => ?_⟩
  obtain rfl : j = 0 := by simp at hj; omega
  exact ⟨b.c0, b.c1, b.c2⟩

set_option maxRecDepth 20000 in
set_option maxHeartbeats 2000000 in
theorem rFixed_any (xs : List Q3) (A : Option Addr) (m cap k : Nat) (w : World) (hl : xs.length = m) (hm : m ≤ 1000000) (hk : 1 ≤ k) (hk2 : k ≤ 4294967296) (hf : ∀ j, j < m → fits (xs.getD j q0) k) (hx : Rds w A xs) :
    Calls Try.prog 54 #[.slice A m cap] w fun e w' => ∃ v zs, e = .returned v ∧ Own3 w' v zs ∧ (0 < m → ∃ g c, v = .slice (some ⟨g, 0, none⟩) m c ∧ w.heap.size ≤ g) ∧ Row1 zs (fun j => ratOf (xs.getD j q0)) m k ∧ Chg [] w w' := by
  have HX := Lib.hid hx
  have HF := Lib.hid hf
  have HL := Lib.hid hl
  have hch : Chg [] w w := Chg.refl _ _
  clear hx hf hl
  go_enter Try.func54, Try.ntmps54
  go_wp2_with fail
  go_loopw [3, 4] (fun sv iv wr => ∃ (i : Nat) (zs : List Q3), i ≤ m ∧ iv = .int .i64 i ∧ zs.length = i ∧ Own3 wr sv zs ∧ (∀ j, j < i → Val (zs.getD j q0) (ratOf (xs.getD j q0)) k) ∧ (∀ x, x ∈ sv.ownBlock.toList → w.heap.size ≤ x) ∧ Chg [] w wr) (fun _ iv _ => m - (intOf iv).toNat)
  case atStart => exact ⟨0, [], Nat.zero_le _, rfl, rfl, Own3.nil _, fun j h => absurd h (by omega), by simp [Value.ownBlock], hch⟩
  case round =>
    clear hch
    obtain ⟨i, zs, hi, rfl, hlz, hown, hval, hblk, hch⟩ := hrel
    have HVAL := Lib.hid hval
    have HBK := Lib.hid hblk
    have HOW := Lib.hid hown
    clear hval hblk hown
    by_cases hlt : i < m
    · obtain ⟨g, o, rfl, _⟩ := HX.out.form (by rw [HL.out]; omega)
      have e1 := (HX.out.keep0 hch).el (j := i) (by rw [HL.out]; exact hlt)
      have f1 := HF.out i hlt
      obtain ⟨x, HXX⟩ := name_it (xs.getD i q0)
      rw [HXX.out] at e1 f1
      have nx : Num x (ratOf x) k := ⟨rfl, f1, hk⟩
      obtain ⟨p, HP⟩ := name_it (ratOf x)
      rw [HP.out] at nx
      have x0 := e1.a
      have x1 := e1.b
      have x2 := e1.c
      have ex := e1
      have i1 : (0 : Int) ≤ (i : Int) := by omega
      have i2 : (i : Int) < (m : Int) := by omega
      clear e1 f1 hi
      go_wp2_with fail
      refine (rFixN x p k _ nx (by omega)).mono ?_
      rintro e w9 ⟨z, rfl, hzv, c1⟩
      have own := HOW.out.keep0 c1
      replace hch := hch.then c1
      clear c1 x0 x1 x2 ex
      have HNX := Lib.hid (nums_snoc (P := fun t z => Val z (ratOf (xs.getD t q0)) k) (z := z) hlz HVAL.out (by rw [HXX.out, HP.out]; exact hzv))
      go_wp2_with (at_builtin; refine wpList_append3 _ rfl (.tmp 11) (.tmp 17) rfl _ zs rfl (own.keep0 ((Chg.refl [] _).alloc _)) _ 1 1 [z] rfl rfl (rds_one _ z) (by simp; omega) ?_)
      intro v1 w4 own1 cv1 hv1
      have h9 := hch.size
      have HB1 : Hid (∀ x, x ∈ v1.ownBlock.toList → w.heap.size ≤ x) := by
        show ∀ _, _
        intro y hy
        rcases hv1 with h | h
        · rw [h] at hy; exact HBK.out y hy
        · rw [h] at hy; simp at hy; omega
      have hch4 := Lib.hid ((hch.alloc _).trans cv1 (fun y hy => .inr (HBK.out y hy)))
      clear hch cv1 hv1
      go_wp2_with fail
      go_roundw
      case rel => exact ⟨i + 1, zs ++ [z], by omega, by go_num, by simp [hlz], own1, HNX.out, HB1.out, hch4.out⟩
      case measure => simp [intOf]; omega
    · obtain rfl : i = m := by omega
      go_wp2_with fail
      go_ret
      refine ⟨u3, zs, rfl, HOW.out, fun h => ?_, ⟨hlz, HVAL.out⟩, hch⟩
      · rcases HOW.out.form with ⟨_, h2⟩ | ⟨g, c, h2, _⟩
        · subst h2; simp at hlz; omega
        · exact ⟨g, c, by rw [h2, hlz], HBK.out g (by rw [h2]; simp [Value.ownBlock])⟩

end Go.Proofs.Ytpaochhaenehmaa
