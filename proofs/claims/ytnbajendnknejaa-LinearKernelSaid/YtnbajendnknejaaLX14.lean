/-
  extended.
-/
import Derived.Test.YtnbajendnknejaaRL3
import Derived.Test.YtnbajendnknejaaLM3
namespace Go.Proofs.Ytnbajendnknejaa
open Go.RowKit Nd
theorem ext_getD {xs ys : List Q3} (hl : xs.length = ys.length) (h : ∀ j, j < ys.length → xs.getD j q0 = ys.getD j q0) : xs = ys := by
  apply List.ext_getElem hl
  intro j h1 h2
  have := h j h2
  simpa [List.getD_eq_getElem?_getD, h1, h2] using this
theorem fill_row (row : List Q3) (x : Q3) (m : Nat) (hl : row.length = m) : (fillL (List.replicate (m + 1) q0) 0 row).set m x = row ++ [x] := by
  refine ext_getD (by rw [List.length_set, fillL_length]; simp [hl]) fun j hj => ?_
  rw [List.length_append, List.length_singleton, hl] at hj
  rw [getD_setM _ q0 x (by rw [fillL_length, List.length_replicate]; omega), getD_snocM, hl]
  by_cases h : j = m
  · rw [if_pos h, if_pos h]
  · rw [if_neg h, if_neg h, fillL_get row _ 0 j (by rw [List.length_replicate]; omega), if_pos (by omega)]; simp

set_option maxRecDepth 20000 in
set_option maxHeartbeats 4000000 in
theorem extended_any (M : List (List Q3)) (xs : List Q3) (n m : Nat) (A B : Option Addr) (cap cb : Nat) (w : World) (hl : M.length = n) (hrow : ∀ i, i < n → (M.getD i []).length = m) (hxl : xs.length = n) (hn : n ≤ 1000000) (hm : m + 1 ≤ 1000000) (hx : Mtx w A M) (hb : Rds w B xs) :
    Calls Try.prog 69 #[.slice A n cap, .slice B n cb] w fun e w' => ∃ (g : Nat) (M' : List (List Q3)), e = .returned (.slice (some ⟨g, 0, none⟩) n n) ∧ w.heap.size ≤ g ∧ Mut w' [] g n M' ∧ M'.length = n ∧ (∀ i, i < n → M'.getD i [] = M.getD i [] ++ [xs.getD i q0]) ∧ Chg [] w w' := by
  have HROW := Lib.hid hrow
  have HL := Lib.hid hl
  have HXL := Lib.hid hxl
  have HX0 := Lib.hid hx
  have HB := Lib.hid hb
  have hch : Chg [] w w := Chg.refl _ _
  obtain ⟨m1, HM1⟩ := name_it (m + 1)
  rw [HM1.out] at hm
  have hm1 : (m : Int) + 1 = (m1 : Int) := by have := HM1.out; omega
  clear hrow hl hxl hx hb
  go_enter Try.func69, Try.ntmps69
  go_wp2_with (at_make; refine wpList_makeM _ rfl (.tmp 9) (.tmp 9) rfl _ _ n rfl rfl rfl rfl hn [] ?_)
  intro w1 hM c1
  obtain ⟨g, HG⟩ := name_it w.heap.size
  rw [HG.out] at hM ⊢
  have hgw : w.heap.size ≤ g := by rw [← HG.out]; exact Nat.le_refl _
  replace hch := hch.then c1
  clear c1
  go_wp2_with fail
  go_loopw [13] (fun iv wr => ∃ (i : Nat) (M' : List (List Q3)), i ≤ n ∧ iv = .int .i64 i ∧ M'.length = n ∧ Mut wr [] g n M' ∧ (∀ r, r < i → M'.getD r [] = M.getD r [] ++ [xs.getD r q0]) ∧ Chg [] w wr) (fun iv _ => n - (intOf iv).toNat)
  case atStart => exact ⟨0, _, Nat.zero_le _, rfl, by simp, hM, fun r h => absurd h (by omega), hch⟩
  case round =>
    clear hM hch
    obtain ⟨i, M', hi, rfl, hlM, hM, hok, hch⟩ := hrel
    have HOK := Lib.hid hok
    clear hok
    by_cases hlt : i < n
    · have hx := HX0.out.keep0 hch
      obtain ⟨ga, oa, rfl, hga⟩ := HX0.out.form (by rw [HL.out]; omega)
      obtain ⟨gb, ob, rfl, hgb⟩ := HB.out.form (by rw [HXL.out]; omega)
      obtain ⟨Br, cr, c0, hc1, hc2, hr⟩ := hx.at_ (i := i) (by rw [HL.out]; exact hlt)
      obtain ⟨_, _, r0, _, _, hr0⟩ := HX0.out.at_ (i := i) (by rw [HL.out]; exact hlt)
      have e0 := (hch.cell (p := ⟨ga, oa + i, none⟩) hga (by simp)).trans r0
      rw [c0] at e0
      simp only [Option.some.injEq, Value.slice.injEq] at e0
      obtain ⟨rfl, -, rfl⟩ := e0
      have hrl := HROW.out i hlt
      obtain ⟨row, HRW⟩ := name_it (M.getD i [])
      rw [HRW.out] at c0 hr hrl hr0 hc1
      rw [hrl] at c0
      have HR := Lib.hid hr
      have HR0 := Lib.hid hr0
      have HRL := Lib.hid hrl
      have hgL := hM.lt
      have hi1 : (0 : Int) ≤ (i : Int) := by omega
      have hi2 : (i : Int) < (n : Int) := by omega
      clear hx hr hrl r0 hr0
      go_wp2_with (at_make; refine wpList_make3 _ rfl (.tmp 22) (.tmp 22) rfl _ _ m1 rfl rfl rfl rfl hm ?_)
      intro w5 hz5 c5
      obtain ⟨h, HH⟩ := name_it wr.heap.size
      rw [HH.out] at hz5 hgL ⊢
      have hMh := (hM.regs (hs := [h]) (fun x hx => .inr (by simp at hx; have := HH.out; omega))).keep0 c5
      have HR5 := Lib.hid (HR.out.keep0 c5)
      replace hch := hch.then c5
      clear c0 hM
      obtain ⟨B9, c9, d0, _, _, _, _⟩ := hMh.at_ (i := i) (by omega)
      have f0 := hMh.frozen i
      have hhl := hch.size
      have HMO := (hMh.openRow (m := m1) (i := i) (by omega) (by omega) (by simp) _ rfl)
      have c7 : Chg [g] w5 (w5.setCell ⟨g, i, none⟩ (.slice (some ⟨h, 0, none⟩) m1 m1)) := (Chg.refl [g] w5).setCell (.inl (by simp)) _
      have hz7 := (hz5.keep c7 (by simp; omega))
      have hch7 := hch.setCell (p := ⟨g, i, none⟩) (.inr hgw) (.slice (some ⟨h, 0, none⟩) m1 m1)
      have HMO2 := Lib.hid HMO
      have HZ7 := Lib.hid hz7
      have HC7 := Lib.hid hch7
      clear hMh hz5 hch c7 c5 HMO hz7 hch7
      have HR7 : Hid (Rds (w5.setCell ⟨g, i, none⟩ (.slice (some ⟨h, 0, none⟩) m1 m1)) Br row) := Lib.hid (HR5.out.keepN ((Chg.refl [g] w5).setCell (.inl (by simp)) _) (fun hl a ha hm => by
        obtain ⟨g9, o9, he, hlt9⟩ := HR0.out.form hl
        rw [he] at ha; cases ha
        simp at hm
        omega))
      have hmm : m ≤ m1 := by have := HM1.out; omega
      go_wp2_with ((refine wpList_copy3 _ rfl (.tmp 28) (.tmp 29) rfl h m1 m1 _ HZ7.out Br m cr row rfl rfl (by simp) HRL.out hmm HR7.out ?_))
      intro w6 hz6 c6
      have HO := HMO2.out.keeph c6
      have hch6 := HC7.out.fresh c6 (by have := HH.out; omega)
      have e1 := (HB.out.keep0 hch6).el (j := i) (by rw [HXL.out]; exact hlt)
      obtain ⟨x, HX⟩ := name_it (xs.getD i q0)
      rw [HX.out] at e1
      have x0 := e1.a
      have x1 := e1.b
      have x2 := e1.c
      have g0 := HO.cell
      have hzl : Hid ((fillL (List.replicate m1 q0) 0 row).length = m1) := Lib.hid (by rw [fillL_length, List.length_replicate])
      have hfin : Hid ((fillL (List.replicate m1 q0) 0 row).set m x = row ++ [x]) := Lib.hid (by rw [← HM1.out]; exact fill_row row x m HRL.out)
      obtain ⟨zs, HZS⟩ := name_it (fillL (List.replicate m1 q0) 0 row)
      rw [HZS.out] at hz6 hzl hfin
      have hmlt : m < m1 := by have := HM1.out; omega
      have hms : m < zs.length := by rw [hzl.out]; exact hmlt
      obtain ⟨s0, s1, s2⟩ := hz6.rds.zero_at (j := m) hms
      have s3 := hz6.frozen (m * 3)
      have s4 := hz6.frozen (m * 3 + 1)
      have s5 := hz6.frozen (m * 3 + 2)
      have i3 : (0 : Int) ≤ (m : Int) := by omega
      have i4 : (m : Int) < (m1 : Int) := by omega
      have c8 : Chg [] w6 w6.drew := (Chg.refl _ _).drew
      have HS := Lib.hid ((hz6.keep c8 (by simp)).store hms x)
      have HOD := Lib.hid (HO.keep0 c8)
      have HCD := Lib.hid (hch6.then c8)
      have HLR : Hid ((row ++ [x]).length = m1) := Lib.hid (by rw [List.length_append, HRL.out]; exact HM1.out)
      clear e1 hms c8
      go_wp2_with fail
      go_region
      go_wp2_with fail
      go_roundw
      case rel => exact ⟨i + 1, M'.set i (row ++ [x]), by omega, by go_num, by rw [List.length_set]; exact hlM, (HOD.out.keeph ((Chg.refl [h] _).store3o (.inl (by simp)) _ _ _)).shut (by have := HS.out.rds; rwa [hfin.out] at this) HLR.out (by omega), fun r hr => by
        rw [getD_setM M' [] _ (by omega)]
        by_cases hri : r = i
        · rw [if_pos hri, hri, HRW.out, HX.out]
        · rw [if_neg hri]; exact HOK.out r (by omega), HCD.out.store3o (.inr (by have := HH.out; omega)) _ _ _⟩
      case measure => simp [intOf]; omega
    · obtain rfl : i = n := by omega
      go_wp2_with fail
      go_ret
      exact ⟨g, M', rfl, hgw, hM, hlM, HOK.out, hch⟩

end Go.Proofs.Ytnbajendnknejaa
