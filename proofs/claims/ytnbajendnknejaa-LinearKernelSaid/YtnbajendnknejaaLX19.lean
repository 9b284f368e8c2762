/-
  The reference's Product and Apply.
-/
import Derived.Test.YtnbajendnknejaaLX18
import Derived.Test.YtnbajendnknejaaGR
namespace Go.Proofs.Ytnbajendnknejaa
open Go.RowKit Nd
theorem El.st2 {w : World} {g o h : Nat} {x : Q3} (e : El w g o x) (hg : g ≠ h) (a b c : Value) : El (((w.setCell ⟨h, 0, none⟩ a).setCell ⟨h, 1, none⟩ b).setCell ⟨h, 2, none⟩ c) g o x := e.st hg a b c

set_option maxRecDepth 20000 in
set_option maxHeartbeats 4000000 in
theorem rProduct_any (M : List (List Q3)) (xs : List Q3) (f : Nat → Nat → Rat) (p : Nat → Rat) (n m k : Nat) (A B : Option Addr) (cap cb : Nat) (w : World) (hv : Vals M f n m k) (hp : Row1 xs p m k) (hm0 : 0 < m) (hn : n ≤ 1000000) (hm : m ≤ 1000000) (_ : 1 ≤ k) (hb : 1 + m * (k + k + 1) ≤ 34359738367) (hx : Mtx w A M) (hy : Rds w B xs) :
    Calls Try.prog 61 #[.slice A n cap, .slice B m cb] w fun e w' => ∃ v ys, e = .returned v ∧ Own3 w' v ys ∧ Row1 ys (fun i => sumF (fun j => f i j * p j) m) n (1 + m * (k + k + 1)) ∧ Chg [] w w' := by
  have HX := Lib.hid hx
  have HY := Lib.hid hy
  have HV := Lib.hid hv
  have HP := Lib.hid hp
  obtain ⟨KP, HKP⟩ := name_it (1 + m * (k + k + 1))
  have hstep : Hid (∀ j, j < m → 1 + (j + 1) * (k + k + 1) ≤ KP) := Lib.hid fun j hj => by
    rw [← HKP.out]
    have := Nat.mul_le_mul_right (k + k + 1) (show j + 1 ≤ m by omega)
    omega
  rw [HKP.out] at hb ⊢
  obtain ⟨gb, ob, rfl, hgb⟩ := hy.form (by rw [hp.len]; exact hm0)
  have hch : Chg [] w w := Chg.refl _ _
  clear hx hy hv hp
  go_enter Try.func61, Try.ntmps61
  go_wp2_with fail
  go_loopw [5, 6] (fun sv iv wr => ∃ (i : Nat) (ys : List Q3), i ≤ n ∧ iv = .int .i64 i ∧ ys.length = i ∧ Own3 wr sv ys ∧ (∀ r, r < i → Val (ys.getD r q0) (sumF (fun j => f r j * p j) m) KP) ∧ (∀ x, x ∈ sv.ownBlock.toList → w.heap.size ≤ x) ∧ Chg [] w wr) (fun _ iv _ => n - (intOf iv).toNat)
  case atStart => exact ⟨0, [], Nat.zero_le _, rfl, rfl, Own3.nil _, fun j h => absurd h (by omega), by simp [Value.ownBlock], hch⟩
  case round =>
    clear hch
    obtain ⟨i, ys, hi, rfl, hly, hown, hval, hblk, hch⟩ := hrel
    have HVAL := Lib.hid hval
    have HBK := Lib.hid hblk
    have HOW := Lib.hid hown
    clear hval hblk hown
    by_cases hlt : i < n
    · obtain ⟨ga, oa, rfl, hga⟩ := HX.out.form (by rw [HV.out.len]; omega)
      obtain ⟨Br, cr, hc, _, _, hB⟩ := (HX.out.keep0 hch).row (i := i) (by rw [HV.out.len]; exact hlt)
      have HR := Lib.hid (HV.out.at_ hlt)
      obtain ⟨row, HRW⟩ := name_it (M.getD i [])
      rw [HRW.out] at hc hB HR
      rw [HR.out.len] at hc
      obtain ⟨gr, orr, rfl, hgr⟩ := hB.form (by rw [HR.out.len]; exact hm0)
      have i1 : (0 : Int) ≤ (i : Int) := by omega
      have i2 : (i : Int) < (n : Int) := by omega
      have hown := HOW.out
      have b1 := Blk3.alloc wr (.bool false) (.string ⟨#[]⟩) (.string ⟨#[]⟩) 49
      have c1 : Chg [] wr (wr.alloc (.cells #[.bool false, .string ⟨#[]⟩, .string ⟨#[]⟩] 49)) := (Chg.refl _ _).alloc _
      have HBL := Lib.hid HOW.out.rds
      have hoB : Hid (∀ x, x ∈ u5.ownBlock.toList → x < wr.heap.size) := Lib.hid fun x hx => by
        rcases HOW.out.form with ⟨h, _⟩ | ⟨g, c, h, hg, _⟩
        · rw [h] at hx; simp [Value.ownBlock] at hx
        · rw [h] at hx; simp [Value.ownBlock] at hx; subst hx; exact hg
      have hgs0 := hch.size
      replace hc := hc.keep0 c1
      replace hB := hB.keep0 c1
      replace hown := hown.keep0 c1
      replace hch := hch.then c1
      clear c1
      obtain ⟨gs, HGS⟩ := name_it wr.heap.size
      have hgs := HGS.out
      rw [HGS.out] at b1 hoB hgr
      have hgrs : gr ≠ gs := by omega
      have hgss : w.heap.size ≤ gs := by rw [← hgs]; exact hgs0
      have hgbs : gb ≠ gs := by omega
      have hgas : ga ≠ gs := by omega
      have b1c0 := b1.c0
      have b1c1 := b1.c1
      have b1c2 := b1.c2
      have b1f0 := b1.f0
      have b1f1 := b1.f1
      have b1f2 := b1.f2
      have b1l := b1.lt
      have hcc := hc.c
      go_wp2_with fail
      clear b1c0 b1c1 b1c2 b1f0 b1f1 b1f2 b1l hcc
      go_loopw [8] (fun jv wx => ∃ (j : Nat) (z : Q3), j ≤ m ∧ jv = .int .i64 j ∧ Val z (sumF (fun j => f i j * p j) j) (1 + j * (k + k + 1)) ∧ Blk3 wx gs (.bool z.neg) (.string z.num) (.string z.den) ∧ Own3 wx u5 ys ∧ Rds wx (some ⟨gr, orr, none⟩) row ∧ Cel wx ga (oa + i) (.slice (some ⟨gr, orr, none⟩) m cr) ∧ Chg [] w wx) (fun jv _ => m - (intOf jv).toNat)
      case atStart => exact ⟨0, q0, Nat.zero_le _, rfl, by rw [Nat.zero_mul]; exact Val_zero, b1, hown, hB, hc, hch⟩
      case round =>
        clear b1 hown hB hc hch
        obtain ⟨j, z, hj, rfl, hz, b1, hown, hB, hc, hch⟩ := hrel
        by_cases hjm : j < m
        · have e1 := hB.el (j := j) (by rw [HR.out.len]; exact hjm)
          have e2 := (HY.out.keep0 hch).el (j := j) (by rw [HP.out.len]; exact hjm)
          have v1 := HR.out.val j hjm
          have v2 := HP.out.val j hjm
          have hs := Lib.hid (show sumF (fun j => f i j * p j) (j + 1) = sumF (fun j => f i j * p j) j + f i j * p j from rfl)
          have hbj := hstep.out j hjm
          have hmul : Hid (j * (k + k + 1) + (k + k + 1) = (j + 1) * (k + k + 1)) := Lib.hid (by rw [Nat.add_mul j 1, Nat.one_mul])
          rw [← hmul.out] at hbj
          obtain ⟨x1, HX1⟩ := name_it (row.getD j q0)
          obtain ⟨x2, HX2⟩ := name_it (xs.getD j q0)
          rw [HX1.out] at e1 v1
          rw [HX2.out] at e2 v2
          obtain ⟨q, HQ⟩ := name_it (sumF (fun j => f i j * p j) j)
          rw [HQ.out] at hz hs
          obtain ⟨u, HU⟩ := name_it (f i j)
          obtain ⟨v, HVV⟩ := name_it (p j)
          rw [HU.out] at v1 hs
          rw [HVV.out] at v2 hs
          obtain ⟨T, HT⟩ := name_it (j * (k + k + 1))
          rw [HT.out] at hz hbj hmul
          have j1 : (0 : Int) ≤ (j : Int) := by omega
          have j2 : (j : Int) < (m : Int) := by omega
          clear hj
          have b1c0 := b1.c0
          have b1c1 := b1.c1
          have b1c2 := b1.c2
          have b1f0 := b1.f0
          have b1f1 := b1.f1
          have b1f2 := b1.f2
          have b1l := b1.lt
          have e1a := e1.a
          have e1b := e1.b
          have e1c := e1.c
          have e2a := e2.a
          have e2b := e2.b
          have e2c := e2.c
          have hcc := hc.c
          go_wp2_with fail
          clear b1c0 b1c1 b1c2 b1f0 b1f1 b1f2 b1l e1a e1b e1c e2a e2b e2c hcc
          have c8 : Chg [] wr wr.drew := (Chg.refl _ _).drew
          replace b1 := b1.keep c8 (by simp)
          replace e1 := e1.keep0 c8
          replace e2 := e2.keep0 c8
          replace hc := hc.keep0 c8
          replace hown := hown.keep0 c8
          replace hB := hB.keep0 c8
          replace hch := hch.then c8
          clear c8
          have b1c0 := b1.c0
          have b1c1 := b1.c1
          have b1c2 := b1.c2
          have b1f0 := b1.f0
          have b1f1 := b1.f1
          have b1f2 := b1.f2
          have b1l := b1.lt
          have e1a := e1.a
          have e1b := e1.b
          have e1c := e1.c
          have e2a := e2.a
          have e2b := e2.b
          have e2c := e2.c
          have hcc := hc.c
          go_region_with (first
              | (go_at_call 76
                 (with_reducible refine (rTimes_any x1 x2 u v k k _ v1 v2 (by omega)).mono ?_)
                 rintro e w1 ⟨y, rfl, hyy, c1⟩
                 clear b1c0 b1c1 b1c2 b1f0 b1f1 b1f2 b1l e1a e1b e1c e2a e2b e2c hcc
                 replace b1 := b1.keep c1 (by simp)
                 replace e1 := e1.keep0 c1
                 replace e2 := e2.keep0 c1
                 replace hc := hc.keep0 c1
                 replace hown := hown.keep0 c1
                 replace hB := hB.keep0 c1
                 replace hch := hch.then c1
                 clear c1
                 have b1c0 := b1.c0
                 have b1c1 := b1.c1
                 have b1c2 := b1.c2
                 have b1f0 := b1.f0
                 have b1f1 := b1.f1
                 have b1f2 := b1.f2
                 have b1l := b1.lt
                 have e1a := e1.a
                 have e1b := e1.b
                 have e1c := e1.c
                 have e2a := e2.a
                 have e2b := e2.b
                 have e2c := e2.c
                 have hcc := hc.c
                 skip)
              | (go_at_call 105
                 (with_reducible refine (rPlus_any z y q (u * v) (1 + T) (k + k) _ hz hyy (by omega)).mono ?_)
                 rintro e w1 ⟨z2, rfl, hz2, c1⟩
                 clear b1c0 b1c1 b1c2 b1f0 b1f1 b1f2 b1l e1a e1b e1c e2a e2b e2c hcc
                 replace b1 := b1.keep c1 (by simp)
                 replace e1 := e1.keep0 c1
                 replace e2 := e2.keep0 c1
                 replace hc := hc.keep0 c1
                 replace hown := hown.keep0 c1
                 replace hB := hB.keep0 c1
                 replace hch := hch.then c1
                 clear c1
                 rw [← hs.out] at hz2
                 have b1c0 := b1.c0
                 have b1c1 := b1.c1
                 have b1c2 := b1.c2
                 have b1f0 := b1.f0
                 have b1f1 := b1.f1
                 have b1f2 := b1.f2
                 have b1l := b1.lt
                 have e1a := e1.a
                 have e1b := e1.b
                 have e1c := e1.c
                 have e2a := e2.a
                 have e2b := e2.b
                 have e2c := e2.c
                 have hcc := hc.c
                 skip))
          all_goals
            go_wp2_with fail
            go_roundw
            case rel => exact ⟨j + 1, z2, by omega, by go_num, by rw [← hmul.out]; exact hz2.mono (by omega), b1.store _ _ _, hown.keep ((Chg.refl [gs] _).store3 (.inl (by simp)) _ _ _) (fun x hx => by have := hoB.out x (by simp [hx]); simp; omega), hB.sto (by omega) _ _ _, hc.st (by omega) _ _ _, hch.store3 (.inr hgss) _ _ _⟩
            case measure => simp [intOf]; omega
        · obtain rfl : j = m := by omega
          rw [HKP.out] at hz
          have HNX := Lib.hid (nums_snoc (P := fun t z => Val z (sumF (fun l => f t l * p l) j) KP) (z := z) hly HVAL.out hz)
          clear hz hB hc
          have b1c0 := b1.c0
          have b1c1 := b1.c1
          have b1c2 := b1.c2
          have b1f0 := b1.f0
          have b1f1 := b1.f1
          have b1f2 := b1.f2
          have b1l := b1.lt
          go_wp2_with (at_builtin; refine wpList_append3 _ rfl (.tmp 36) (.tmp 38) rfl _ ys rfl (hown.keep0 ((Chg.refl [] _).alloc _)) _ 1 1 [z] rfl rfl (rds_one _ z) (by simp; omega) ?_)
          intro v1 w4 own1 cv1 hv1
          have h9 := hch.size
          have HB1 : Hid (∀ x, x ∈ v1.ownBlock.toList → w.heap.size ≤ x) := by
            show ∀ _, _
            intro y hy
            rcases hv1 with h | h
            · rw [h] at hy; exact HBK.out y hy
            · rw [h] at hy; simp at hy; omega
          have hch4 := Lib.hid ((hch.alloc _).trans cv1 (fun y hy => .inr (HBK.out y hy)))
          clear b1c0 b1c1 b1c2 b1f0 b1f1 b1f2 b1l
          clear hch cv1 hv1 b1 hown
          go_wp2_with fail
          go_roundw
          case rel => exact ⟨i + 1, ys ++ [z], by omega, by go_num, by simp [hly], own1, HNX.out, HB1.out, hch4.out⟩
          case measure => simp [intOf]; omega
    · obtain rfl : i = n := by omega
      go_wp2_with fail
      go_ret
      exact ⟨u5, ys, rfl, HOW.out, ⟨hly, HVAL.out⟩, hch⟩

set_option maxRecDepth 20000 in
set_option maxHeartbeats 1000000 in
theorem rApply_bad (M : List (List Q3)) (xs : List Q3) (A B : Option Addr) (cap cb : Nat) (w : World) (hn : M.length ≤ 1000000) (hx : Mtx w A M) (hs : shapeE M ≠ 0) :
    Calls Try.prog 24 #[.slice A M.length cap, .slice B xs.length cb] w fun e w' => e = .returned (.tuple #[.slice none 0 0, .int .i64 (shapeE M : Nat)]) ∧ Chg [] w w' := by
  obtain ⟨s, HS⟩ := name_it (shapeE M)
  rw [HS.out] at hs
  rw [HS.out]
  have hs1 : ((s : Int) != 0) = true := by simp; omega
  go_enter Try.func24, Try.ntmps24
  go_wp2_with fail
  refine (rshape_any M A cap _ hn hx).mono ?_
  rintro e w1 ⟨rfl, c1⟩
  rw [HS.out]
  go_wp2_with fail
  go_ret2
  exact ⟨rfl, c1⟩

set_option maxRecDepth 20000 in
set_option maxHeartbeats 1000000 in
theorem rApply_len (M : List (List Q3)) (xs : List Q3) (A B : Option Addr) (cap cb : Nat) (w : World) (hx : Mtx w A M) (hs : shapeE M = 0) (hl : xs.length ≠ (M.getD 0 []).length) :
    Calls Try.prog 24 #[.slice A M.length cap, .slice B xs.length cb] w fun e w' => e = .returned (.tuple #[.slice none 0 0, .int .i64 4]) ∧ Chg [] w w' := by
  obtain ⟨s0, s1, s2, s3, s4⟩ := shapeE_ok hs
  obtain ⟨n, HN⟩ := name_it M.length
  obtain ⟨m, HM⟩ := name_it (M.getD 0 []).length
  rw [HN.out] at s0 s3
  rw [HM.out] at s1 s4 hl
  obtain ⟨l, HL⟩ := name_it xs.length
  rw [HL.out] at hl
  rw [HL.out]
  have hl1 : ((l : Int) != (m : Int)) = true := by simp; omega
  have HX := Lib.hid hx
  obtain ⟨ga, oa, rfl, hga⟩ := hx.form (by rw [HN.out]; omega)
  have HSH := Lib.hid hs
  have hch : Chg [] w w := Chg.refl _ _
  clear hx hs s2
  rw [HN.out]
  go_enter Try.func24, Try.ntmps24
  go_wp2_with fail
  rw [← HN.out]
  refine (rshape_any M _ cap _ (by rw [HN.out]; omega) HX.out).mono ?_
  rintro e w1 ⟨rfl, c1⟩
  rw [HSH.out, HN.out]
  replace hch := hch.then c1
  clear c1
  obtain ⟨B0, cr0, hc, _, _, _⟩ := (HX.out.keep0 hch).row (i := 0) (by rw [HN.out]; omega)
  rw [Nat.add_zero, HM.out] at hc
  have n1 : (0 : Int) < (n : Int) := by omega
  have hcc := hc.c
  go_wp2_with fail
  go_ret2
  exact ⟨rfl, hch⟩

set_option maxRecDepth 20000 in
set_option maxHeartbeats 2000000 in
theorem rApply_ok (M : List (List Q3)) (xs : List Q3) (A B : Option Addr) (cap cb : Nat) (k : Nat) (w : World) (hx : Mtx w A M) (hb : Rds w B xs) (hs : shapeE M = 0) (hl : xs.length = (M.getD 0 []).length) (hk : 1 ≤ k) (hk2 : k ≤ 3000) (hfit : ∀ i, i < M.length → ∀ j, j < (M.getD 0 []).length → fits ((M.getD i []).getD j q0) k) (hfx : ∀ j, j < (M.getD 0 []).length → fits (xs.getD j q0) k) :
    Calls Try.prog 24 #[.slice A M.length cap, .slice B xs.length cb] w fun e w' => ∃ v zs, e = .returned (.tuple #[v, .int .i64 0]) ∧ Own3 w' v zs ∧ Row1 zs (fun i => sumF (fun j => ratOf ((M.getD i []).getD j q0) * ratOf (xs.getD j q0)) (M.getD 0 []).length) M.length (1 + (M.getD 0 []).length * (k + k + 1)) ∧ Chg [] w w' := by
  obtain ⟨s0, s1, s2, s3, s4⟩ := shapeE_ok hs
  obtain ⟨n, HN⟩ := name_it M.length
  obtain ⟨m, HM⟩ := name_it (M.getD 0 []).length
  rw [HN.out] at s0 s3 s2 hfit
  rw [HM.out] at s1 s4 hl s2 hfit hfx
  have HROW := Lib.hid s2
  have HFIT := Lib.hid hfit
  have HFX := Lib.hid hfx
  have HSH := Lib.hid hs
  have HX := Lib.hid hx
  have HB := Lib.hid hb
  have HXL := Lib.hid hl
  obtain ⟨ga, oa, rfl, hga⟩ := hx.form (by rw [HN.out]; omega)
  obtain ⟨gb, ob, rfl, hgb⟩ := hb.form (by omega)
  have hch : Chg [] w w := Chg.refl _ _
  rw [HN.out, HM.out, hl]
  have hmk : Hid (1 + m * (k + k + 1) ≤ 34359738367) := Lib.hid (by
    have : m * (k + k + 1) ≤ 16 * 6001 := Nat.mul_le_mul s4 (by omega)
    omega)
  clear hx hb hs s2 hfit hfx hl
  go_enter Try.func24, Try.ntmps24
  go_wp2_with fail
  rw [← HN.out]
  refine (rshape_any M _ cap _ (by rw [HN.out]; omega) HX.out).mono ?_
  rintro e w1 ⟨rfl, c1⟩
  rw [HSH.out, HN.out]
  replace hch := hch.then c1
  clear c1
  obtain ⟨B0, cr0, hc, _, _, _⟩ := (HX.out.keep0 hch).row (i := 0) (by rw [HN.out]; omega)
  rw [Nat.add_zero, HM.out] at hc
  have n1 : (0 : Int) < (n : Int) := by omega
  have n3 : ((m : Int) != (m : Int)) = false := by simp
  have hcc := hc.c
  go_wp2_with fail
  refine (rfixedRows_any M _ n m cap k _ HN.out HROW.out (by omega) (by omega) (by omega) hk (by omega) HFIT.out (HX.out.keep0 hch)).mono ?_
  rintro e w2 ⟨v2, M2, rfl, hM2, hV2, _, c1⟩
  replace hch := hch.then c1
  clear hcc hc
  obtain ⟨A2, cp2, rfl, _, _, hm2⟩ := hM2.mtx
  rw [hV2.len]
  have HV2 := Lib.hid hV2
  have HM2 := Lib.hid hm2
  clear c1 hV2 hM2 hm2
  go_wp2_with fail
  refine (rFixed_any xs _ m cb k _ HXL.out (by omega) hk (by omega) HFX.out (HB.out.keep0 hch)).mono ?_
  rintro e w3 ⟨v3, ys, rfl, hown, hfr, hys, c1⟩
  have HM3 := Lib.hid (HM2.out.keep0 c1)
  replace hch := hch.then c1
  have HYS := Lib.hid hys
  obtain ⟨A3, cp3, rfl, _, _, hr3⟩ := hown.rds
  rw [hys.len]
  have HR3 := Lib.hid hr3
  clear c1 hown hfr hys hr3
  go_wp2_with fail
  refine (rProduct_any M2 ys (matQ M) (fun j => ratOf (xs.getD j q0)) n m k A2 A3 cp2 cp3 _ HV2.out HYS.out (by omega) (by omega) (by omega) hk hmk.out HM3.out HR3.out).mono ?_
  rintro e w4 ⟨v4, zs, rfl, hown, hzs, c1⟩
  have HZS := Lib.hid hzs
  replace hch := hch.then c1
  clear c1 hzs
  go_wp2_with fail
  go_ret2
  exact ⟨v4, zs, rfl, hown, HZS.out, hch⟩

end Go.Proofs.Ytnbajendnknejaa
