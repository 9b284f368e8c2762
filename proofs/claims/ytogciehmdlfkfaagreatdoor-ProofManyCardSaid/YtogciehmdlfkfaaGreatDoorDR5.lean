/-
  The reference: dec, known, Format.
-/
import Derived.Test.YtogciehmdlfkfaaGreatDoorHE
import Derived.Test.YtogciehmdlfkfaaGreatDoorHR
import Derived.Test.YtogciehmdlfkfaaGreatDoorHT
namespace Go.Proofs.YtogciehmdlfkfaaGreatDoor
open Go.RowKit Nd

set_option maxRecDepth 20000 in
theorem rdec_any (n : Int) (h0 : 0 ≤ n) (h1 : n ≤ 9223372036854775807) (w : World) :
    Calls Tryz.prog 48 #[.int .i64 n] w fun e w' => e = .returned (.string (itB n)) ∧ Chg [] w w' := by
  obtain ⟨m, rfl⟩ : ∃ m : Nat, n = m := ⟨n.toNat, by omega⟩
  have hm : m < 18446744073709551616 := by omega
  have hwr : IntKind.u64.wrap (m : Int) = m := by simp [IntKind.wrap, IntKind.bits, IntKind.signed]; omega
  obtain ⟨D, HD⟩ := name_it (itB (m : Int))
  have HDD : Hid (∀ s t : ByteArray, Is s m → Dec t.data.toList (val s) → t = D) := by
    show ∀ _ _, _
    intro s t h1 h2
    rw [Is_val h1] at h2
    rw [← HD.out]
    apply ByteArray.ext
    apply Array.toList_inj.1
    exact decL_of h2
  have HSZ : Hid (∀ s : ByteArray, Is s m → s.size ≤ 68719476736) := by
    show ∀ _, _
    intro s h
    have := Is_size h 8 (by omega)
    omega
  rw [HD.out]
  clear HD
  go_enter Tryz.func48, Tryz.ntmps48
  go_wp2_with (first
    | (go_at_call 74
       refine (rfromUint_any m _ hm).mono ?_
       rintro e w2 ⟨s, rfl, hs, c2⟩
       have HS := Lib.hid hs
       clear hs)
    | (go_at_call 73
       refine (natFormat_any s _ (HSZ.out s HS.out)).mono ?_
       rintro e w3 ⟨t, rfl, ht, c3⟩
       have ht2 := HDD.out s t HS.out ht
       clear ht
       subst ht2)
    | fail)
  go_ret
  exact ⟨rfl, c2.then c3⟩

set_option maxRecDepth 20000 in
set_option maxHeartbeats 1000000 in
theorem rknown_any (xs : List Pf) (A : Option Addr) (n c : Nat) (id : ByteArray) (w : World) (hn : xs.length = n) (hn2 : n ≤ 1000000) (hx : SPf w A xs) :
    Calls Tryz.prog 44 #[.slice A n c, .string id] w fun e w' => e = .returned (.bool (xs.any fun p => decide (p.id = id))) ∧ Chg [] w w' := by
  obtain ⟨r, HR⟩ := name_it (xs.any fun p => decide (p.id = id))
  rw [HR.out]
  have HN := Lib.hid hn
  clear hn
  go_enter Tryz.func44, Tryz.ntmps44
  go_wp2
  go_loopw [5] (fun iv wr => ∃ i : Nat, i ≤ n ∧ iv = .int .i64 i ∧ (∀ j, j < i → decide ((xs.getD j pf0).id = id) = false) ∧ SPf wr A xs ∧ Chg [] w wr) (fun iv _ => n - (intOf iv).toNat)
  case atStart => exact ⟨0, by omega, rfl, fun j hj => absurd hj (by omega), hx, Chg.refl _ _⟩
  case round =>
    obtain ⟨i, hi, rfl, hall, hxr, hch⟩ := hrel
    have HA := Lib.hid hall
    clear hall hx
    by_cases hlt : i < n
    · obtain ⟨p, HP⟩ := name_it (xs.getD i pf0)
      have HX1 := Lib.hid hxr
      obtain ⟨g, o, rfl, l1, k1⟩ := hxr (by rw [HN.out]; omega)
      have hc := k1 i (by rw [HN.out]; omega)
      rw [HP.out] at hc
      have y0 := hc.c0
      clear k1 hc
      have q := str_eqB p.id id
      by_cases he : p.id = id
      · have hr : r = true := by
          rw [← HR.out, List.any_eq_true]
          exact ⟨xs.getD i pf0, memPf (by rw [HN.out]; exact hlt), by rw [HP.out]; exact decide_eq_true he⟩
        rw [decide_eq_true he] at q
        have HRR := Lib.hid hr
        clear he hr
        go_wp2
        go_ret
        exact ⟨ret_eq (by rw [HRR.out]; rfl), hch⟩
      · rw [decide_eq_false he] at q
        have HA2 : Hid (∀ j, j < i + 1 → decide ((xs.getD j pf0).id = id) = false) := by
          show ∀ j, _
          intro j hj
          by_cases hji : j = i
          · rw [hji, HP.out]; exact decide_eq_false he
          · exact HA.out j (by omega)
        clear he
        go_wp2
        go_roundw
        · exact ⟨i + 1, by omega, rfl, HA2.out, HX1.out, hch⟩
        · simp [intOf]; omega
    · have hr : r = false := by
        rw [← HR.out, List.any_eq_false]
        intro p hp
        obtain ⟨j, hj, rfl⟩ := List.getElem_of_mem hp
        have := HA.out j (by rw [HN.out] at hj; omega)
        rw [List.getD_eq_getElem?_getD, List.getElem?_eq_getElem hj, Option.getD_some] at this
        simpa using this
      have HRR := Lib.hid hr
      have dl : decide ((i : Int) < (n : Int)) = false := by simp; omega
      clear hr
      go_wp2
      go_ret
      exact ⟨ret_eq (by rw [HRR.out]; rfl), hch⟩

theorem rfmtP (x : Q3) (w : World) (hx : fits x 4000) :
    Calls Tryz.prog 49 #[.agg #[.bool x.neg, .string x.num, .string x.den]] w fun e w' => e = .returned (.string (fmB (ratOf x))) ∧ Chg [] w w' := by
  refine (rFormatN x (ratOf x) 4000 w (Num.of_fits hx (by omega)) (by omega)).mono ?_
  rintro e w' ⟨s, rfl, hs, hc⟩
  refine ⟨?_, hc⟩
  rw [show s = fmB (ratOf x) from by unfold fmB; rw [← hs]]

def dlA (p : Pf) : List UInt8 := kPro.data.toList ++ 32 :: p.id.data.toList ++ [10] ++ (kEst.data.toList ++ 32 :: itL p.es ++ [10]) ++ (kCre.data.toList ++ 32 :: itL p.cr ++ [10])
  ++ (kAmo.data.toList ++ 32 :: p.cd.data.toList ++ 32 :: fmtL (ratOf p.am) ++ [10]) ++ (kInc.data.toList ++ 32 :: itL p.inc ++ [10]) ++ (kRan.data.toList ++ 32 :: itL p.rk ++ [10])
def dlB (p : Pf) : List UInt8 := if 0 < sg (ratOf p.rt) then kInt.data.toList ++ 32 :: fmtL (ratOf p.rt) ++ 32 :: kFro.data.toList ++ 32 :: itL p.rf ++ [10] else []
def dlC (p : Pf) : List UInt8 := if p.sec ≠ -1 then kSec.data.toList ++ 32 :: itL p.sec ++ [10] else []
theorem docL_split (p : Pf) : docL p = dlA p ++ dlB p ++ dlC p := rfl
theorem allFrom_zero (l : List Pf) : ∀ f i, allFrom l f i = 0 → l.length ≤ i + f → ∀ j, i ≤ j → j < l.length → chkE (l.getD j pf0) = 0 := by
  intro f
  induction f with
  | zero => intro i _ h j h1 h2; omega
  | succ f ih =>
    intro i h hl j h1 h2
    rw [allFrom_step l f i (by omega)] at h
    by_cases hc : chkE (l.getD i pf0) = 0
    · rw [if_neg (by simp only [hc]; decide)] at h
      split at h
      · exact absurd h (by decide)
      · by_cases hj : j = i
        · rw [hj]; exact hc
        · exact ih (i + 1) h (by omega) j (by omega) h2
    · rw [if_pos hc] at h
      exact absurd h hc
theorem allE_zero {l : List Pf} (h : allE l = 0) : ∀ p ∈ l, chkE p = 0 := by
  intro p hp
  unfold allE at h
  split at h
  · exact absurd h (by decide)
  · obtain ⟨j, hj, rfl⟩ := List.getElem_of_mem hp
    have := allFrom_zero l _ 0 h (by omega) j (by omega) hj
    rwa [List.getD_eq_getElem?_getD, List.getElem?_eq_getElem hj, Option.getD_some] at this
theorem chk_opt {p : Pf} (h : chkE p = 0) : optE p = 0 := by
  unfold chkE at h
  split at h
  · exact absurd h (by decide)
  split at h
  · exact absurd h (by decide)
  split at h
  · exact absurd h (by decide)
  split at h
  · exact absurd h (by decide)
  split at h
  · exact absurd h (by decide)
  exact h
theorem chk_sec {p : Pf} (h : chkE p = 0) : p.sec = -1 ∨ (0 ≤ p.sec ∧ p.sec ≤ 7) := by
  have h := chk_opt h
  unfold optE at h
  split at h
  · exact absurd h (by decide)
  split at h
  · exact absurd h (by decide)
  split at h
  · exact absurd h (by decide)
  rename_i hs
  by_cases h1 : p.sec = -1
  · exact Or.inl h1
  · right
    have : upB p.sec 7 = true := by
      cases hu : upB p.sec 7 with
      | true => rfl
      | false => exact absurd ⟨h1, hu⟩ hs
    unfold upB at this
    simpa using this
/-- The walk's state: the document's box, the list. -/
structure LSt (W w : World) (g : Nat) (p : Pf) (A : Option Addr) (xs : List Pf) : Prop where
  d : DSt W w g p
  l : SPf w A xs
theorem LSt.keep0 {W w w' : World} {g : Nat} {p : Pf} {A : Option Addr} {xs : List Pf} (h : LSt W w g p A xs) (hc : Chg [] w w') : LSt W w' g p A xs := ⟨h.d.keep0 hc, h.l.keep0 hc⟩

set_option maxRecDepth 20000 in
set_option maxHeartbeats 16000000 in
theorem rFormat_any (xs : List Pf) (A : Option Addr) (n c : Nat) (w : World) (hgl : Gl w) (hn : xs.length = n) (hn2 : n ≤ 64) (hc : n ≤ c) (hc2 : c ≤ 9223372036854775807) (hx : SPf w A xs) (hd : Docs xs) (hz : ∀ p ∈ xs, small p.id ∧ small p.cd) :
    Calls Tryz.prog 21 #[.slice A n c] w (FmtPo w xs) := by
  obtain ⟨R, HR⟩ := name_it (allE xs)
  have HN := Lib.hid hn
  have HD := Lib.hid hd
  have HZ := Lib.hid hz
  have HGL := Lib.hid hgl
  have hR : Hid (R = allFrom xs n 0) := by show _ = _; rw [← HR.out]; unfold allE; rw [hn, if_neg (by omega)]
  have HF : Hid (R ≠ 0 → fmtE xs = R ∧ fmtT xs = []) := by
    show _ → _
    intro h
    have h1 : fmtE xs = R := by unfold fmtE; rw [HR.out, if_pos h]
    exact ⟨h1, by unfold fmtT; rw [h1, if_pos h]⟩
  have d1 : decide (64 < (n : Int)) = false := by simp; omega
  clear hn hd hgl hz
  go_enter Tryz.func21, Tryz.ntmps21
  go_wp2
  clear d1
  go_loopw [4] (fun iv wr => ∃ i : Nat, i ≤ n ∧ iv = .int .i64 i ∧ R = allFrom xs (n - i) i ∧ SPf wr A xs ∧ Chg [] w wr) (fun iv _ => n - (intOf iv).toNat)
  case atStart => exact ⟨0, by omega, rfl, by rw [hR.out]; rfl, hx, Chg.refl _ _⟩
  case round =>
    obtain ⟨i, hi, rfl, hq, hxr, hch⟩ := hrel
    have HQ := Lib.hid hq
    clear hq hx hR
    by_cases hlt : i < n
    · obtain ⟨p, HP⟩ := name_it (xs.getD i pf0)
      have hQ2 : Hid (R = if chkE p ≠ 0 then chkE p else if (xs.take i).any (fun q => decide (q.id = p.id)) then 12 else allFrom xs (n - (i + 1)) (i + 1)) := by
        show _ = _
        rw [HQ.out, show n - i = (n - (i + 1)) + 1 by omega, allFrom_step xs _ i (by rw [HN.out]; exact hlt), HP.out]
      have hmem : p ∈ xs := by rw [← HP.out]; exact memPf (by rw [HN.out]; exact hlt)
      have HFP := Lib.hid (HD.out.fit p hmem)
      have HZP := Lib.hid (HZ.out p hmem)
      have HX1 := Lib.hid hxr
      obtain ⟨g, o, rfl, l1, k1⟩ := hxr (by rw [HN.out]; omega)
      have hcc := k1 i (by rw [HN.out]; omega)
      rw [HP.out] at hcc
      obtain ⟨y0, y1, y2, y3, y4, y5, y6, y7, y8, y9, y10, y11, y12, y13, _⟩ := hcc
      clear k1 hmem
      obtain ⟨E, HE⟩ := name_it (chkE p)
      rw [HE.out] at hQ2
      have HT : Hid ((xs.take i).length = i) := by show _ = _; rw [List.length_take, HN.out]; omega
      obtain ⟨B, HB⟩ := name_it ((xs.take i).any fun q => decide (q.id = p.id))
      rw [HB.out] at hQ2
      by_cases hE : E = 0
      · subst hE
        have hQ3 : Hid (R = if B = true then 12 else allFrom xs (n - (i + 1)) (i + 1)) := by show _ = _; rw [hQ2.out, if_neg (by simp)]
        clear hQ2
        have hic : (i : Int) ≤ (c : Int) := by omega
        cases B with
        | true =>
          have hR : Hid (R = 12) := by show _ = _; rw [hQ3.out, if_pos rfl]
          have hF := Lib.hid (HF.out (by rw [hR.out]; decide))
          clear hQ3
          go_wp2_with (first
              | (go_at_call 16
                 refine (rCheck_any p _ HFP.out HZP.out.1 HZP.out.2).mono ?_
                 rintro e w5 ⟨rfl, c5⟩
                 rw [HE.out]
                 have HX5 := Lib.hid (HX1.out.keep0 c5)
                 have hc5 := hch.then c5)
              | fail)
          have c8 : Chg [] w5 w5.drew := (Chg.refl _ _).drew
          replace HX5 := Lib.hid (HX5.out.keep0 c8)
          replace hc5 := hc5.then c8
          clear c8 y0 y1 y2 y3 y4 y5 y6 y7 y8 y9 y10 y11 y12 y13
          have hy0 := (HX5.out.at_ (j := i) (by rw [HN.out]; exact hlt)).c0
          rw [HP.out] at hy0
          have e5 : (0 : Int) ≤ (i : Int) := by omega
          go_region_held3 (fun w' => w'.cell? ⟨g, o + i * 14, none⟩ = some (.string p.id)) (first | exact hy0 | exact (HX6.out.at_ (j := i) (by rw [HN.out]; exact hlt)).c0.trans (by rw [HP.out])) (first
            | (go_at_call 44
               refine (rknown_any (xs.take i) (some ⟨g, o, none⟩) i c p.id _ HT.out (by omega) (HX5.out.take i)).mono ?_
               rintro e w6 ⟨rfl, c6⟩
               rw [HB.out]
               have HX6 := Lib.hid (HX5.out.keep0 c6)
               have hc6 := hc5.then c6)
            | fail)
          go_wp2_with fail
          go_ret2
          exact ⟨ret_eq (by rw [hF.out.1, hF.out.2, hR.out]; rfl), hc6⟩
        | false =>
          have hR : Hid (R = allFrom xs (n - (i + 1)) (i + 1)) := by show _ = _; rw [hQ3.out, if_neg (by simp)]
          clear hQ3
          go_wp2_with (first
              | (go_at_call 16
                 refine (rCheck_any p _ HFP.out HZP.out.1 HZP.out.2).mono ?_
                 rintro e w5 ⟨rfl, c5⟩
                 rw [HE.out]
                 have HX5 := Lib.hid (HX1.out.keep0 c5)
                 have hc5 := hch.then c5)
              | fail)
          have c8 : Chg [] w5 w5.drew := (Chg.refl _ _).drew
          replace HX5 := Lib.hid (HX5.out.keep0 c8)
          replace hc5 := hc5.then c8
          clear c8 y0 y1 y2 y3 y4 y5 y6 y7 y8 y9 y10 y11 y12 y13
          have hy0 := (HX5.out.at_ (j := i) (by rw [HN.out]; exact hlt)).c0
          rw [HP.out] at hy0
          have e5 : (0 : Int) ≤ (i : Int) := by omega
          go_region_held3 (fun w' => w'.cell? ⟨g, o + i * 14, none⟩ = some (.string p.id)) (first | exact hy0 | exact (HX6.out.at_ (j := i) (by rw [HN.out]; exact hlt)).c0.trans (by rw [HP.out])) (first
            | (go_at_call 44
               refine (rknown_any (xs.take i) (some ⟨g, o, none⟩) i c p.id _ HT.out (by omega) (HX5.out.take i)).mono ?_
               rintro e w6 ⟨rfl, c6⟩
               rw [HB.out]
               have HX6 := Lib.hid (HX5.out.keep0 c6)
               have hc6 := hc5.then c6)
            | fail)
          go_wp2_with fail
          go_roundw
          case rel => exact ⟨i + 1, by omega, by go_num, hR.out, HX6.out, hc6⟩
          case measure => simp [intOf]; omega
      · have dE : (E == 0) = false := by simpa using hE
        have dE2 : (E != 0) = true := by simpa using hE
        have hR : Hid (R = E) := by show _ = _; rw [hQ2.out, if_pos hE]
        have hF := Lib.hid (HF.out (by rw [hR.out]; exact hE))
        clear hE hQ2
        go_wp2_with (first
              | (go_at_call 16
                 refine (rCheck_any p _ HFP.out HZP.out.1 HZP.out.2).mono ?_
                 rintro e w5 ⟨rfl, c5⟩
                 rw [HE.out]
                 have HX5 := Lib.hid (HX1.out.keep0 c5)
                 have hc5 := hch.then c5)
              | fail)
        have hic : (i : Int) ≤ (c : Int) := by omega
        have e5 : (0 : Int) ≤ (i : Int) := by omega
        go_quiet (fail)
        go_wp2_with fail
        go_ret2
        exact ⟨ret_eq (by rw [hF.out.1, hF.out.2, hR.out]; rfl), hc5.drewN _⟩
    · have hin : i = n := by omega
      subst hin
      have hR : Hid (R = 0) := by show _ = _; rw [HQ.out, Nat.sub_self]; rfl
      clear HQ HF
      have HA0 : Hid (allE xs = 0) := by show _ = _; rw [HR.out, hR.out]
      clear hR HR
      have HDP := Lib.hid (HD.out.doc HA0.out)
      have HCK := Lib.hid (allE_zero HA0.out)
      have HFE : Hid (fmtE xs = if longB (docsL xs) then 2 else 0) := by show _ = _; unfold fmtE; rw [HA0.out, if_neg (by simp)]
      have HX0 := Lib.hid hxr
      have HG0 := Lib.hid (HGL.out.keep0 hch)
      clear hxr
      go_wp2_with fail
      go_loopw [6, 7] (fun tv iv wr => ∃ (j : Nat) (T : ByteArray), j ≤ i ∧ iv = .int .i64 j ∧ tv = .string T ∧ T.data.toList = docsL (xs.take j) ∧ T.size ≤ j * 400000 ∧ SPf wr A xs ∧ Chg [] w wr) (fun _ iv _ => i - (intOf iv).toNat)
      case atStart => exact ⟨0, ⟨#[]⟩, by omega, rfl, rfl, by simp [docsL], by decide, HX0.out, hch⟩
      case round =>
        obtain ⟨j, T, hj, rfl, rfl, hT, zT, hxr, hcr⟩ := hrel
        have HT := Lib.hid hT
        have HXR := Lib.hid hxr
        clear hT
        by_cases hlt : j < i
        · obtain ⟨p, HP⟩ := name_it (xs.getD j pf0)
          have hmem : p ∈ xs := by rw [← HP.out]; exact memPf (by rw [HN.out]; exact hlt)
          have HDC := Lib.hid (HDP.out p hmem)
          have HSEC := Lib.hid (chk_sec (HCK.out p hmem))
          have hTL : Hid (docsL (xs.take (j + 1)) = T.data.toList ++ docL p) := by show _ = _; rw [docsL_snoc xs j (by rw [HN.out]; exact hlt), HP.out, ← HT.out]
          have HGR := Lib.hid (HGL.out.keep0 hcr)
          obtain ⟨g, o, rfl, l1, k1⟩ := hxr (by rw [HN.out]; omega)
          have hcc := k1 j (by rw [HN.out]; omega)
          rw [HP.out] at hcc
          obtain ⟨y0, y1, y2, y3, y4, y5, y6, y7, y8, y9, y10, y11, y12, y13, _⟩ := hcc
          have b := BlkPf.alloc wr (.string p.id) (.int .i64 p.es) (.int .i64 p.cr) (.string p.cd) (.bool p.am.neg) (.string p.am.num) (.string p.am.den) (.int .i64 p.inc) (.int .i64 p.rk) (.bool p.rt.neg) (.string p.rt.num) (.string p.rt.den) (.int .i64 p.rf) (.int .i64 p.sec) 27
          have c1 : Chg [] wr (wr.alloc (.cells #[.string p.id, .int .i64 p.es, .int .i64 p.cr, .string p.cd, .bool p.am.neg, .string p.am.num, .string p.am.den, .int .i64 p.inc, .int .i64 p.rk, .bool p.rt.neg, .string p.rt.num, .string p.rt.den, .int .i64 p.rf, .int .i64 p.sec] 27)) := (Chg.refl _ _).alloc _
          have hca := hcr.then c1
          have hga := HGR.out.keep0 c1
          have hxa := HXR.out.keep0 c1
          clear k1 c1 hmem HXR HGR hcr
          have Z1 : p.id.size ≤ 20000 := HDC.out.id
          have Z2 : p.cd.size ≤ 20000 := HDC.out.cd
          have Z3 : (fmB (ratOf p.am)).size ≤ 20000 := HDC.out.am
          have Z4 : (fmB (ratOf p.rt)).size ≤ 20000 := HDC.out.rt
          have N1 := Lib.hid HDC.out.es
          have N2 := Lib.hid HDC.out.cr
          have N3 := Lib.hid HDC.out.inc
          have N4 := Lib.hid HDC.out.rk
          have N5 := Lib.hid HDC.out.rf
          have i1 : (itB p.es).size ≤ 20000 := itB_small _ N1.out.1 N1.out.2
          have i2 : (itB p.cr).size ≤ 20000 := itB_small _ N2.out.1 N2.out.2
          have i3 : (itB p.inc).size ≤ 20000 := itB_small _ N3.out.1 N3.out.2
          have i4 : (itB p.rk).size ≤ 20000 := itB_small _ N4.out.1 N4.out.2
          have i5 : (itB p.rf).size ≤ 20000 := itB_small _ N5.out.1 N5.out.2
          have q1 : (⟨#[112, 114, 111, 111, 102, 32]⟩ : ByteArray).size = 6 := rfl
          have q2 : (⟨#[10, 101, 115, 116, 97, 116, 101, 32]⟩ : ByteArray).size = 8 := rfl
          have q3 : (⟨#[10, 99, 114, 101, 100, 105, 116, 111, 114, 32]⟩ : ByteArray).size = 10 := rfl
          have q4 : (⟨#[10, 97, 109, 111, 117, 110, 116, 32]⟩ : ByteArray).size = 8 := rfl
          have q5 : (⟨#[32]⟩ : ByteArray).size = 1 := rfl
          have q6 : (⟨#[10, 105, 110, 99, 117, 114, 114, 101, 100, 32]⟩ : ByteArray).size = 10 := rfl
          have q7 : (⟨#[10, 114, 97, 110, 107, 32]⟩ : ByteArray).size = 6 := rfl
          have q8 : (⟨#[10]⟩ : ByteArray).size = 1 := rfl
          have q9 : (⟨#[105, 110, 116, 101, 114, 101, 115, 116, 32]⟩ : ByteArray).size = 9 := rfl
          have q10 : (⟨#[32, 102, 114, 111, 109, 32]⟩ : ByteArray).size = 6 := rfl
          have q11 : (⟨#[115, 101, 99, 117, 114, 101, 100, 32]⟩ : ByteArray).size = 8 := rfl
          have zT2 : T.size ≤ 30000000 := by omega
          have HXX : Hid ((T ++ ⟨#[112, 114, 111, 111, 102, 32]⟩ ++ p.id ++ ⟨#[10, 101, 115, 116, 97, 116, 101, 32]⟩ ++ itB p.es ++ ⟨#[10, 99, 114, 101, 100, 105, 116, 111, 114, 32]⟩ ++ itB p.cr ++ ⟨#[10, 97, 109, 111, 117, 110, 116, 32]⟩ ++ p.cd ++ ⟨#[32]⟩ ++ fmB (ratOf p.am) ++ ⟨#[10, 105, 110, 99, 117, 114, 114, 101, 100, 32]⟩ ++ itB p.inc ++ ⟨#[10, 114, 97, 110, 107, 32]⟩ ++ itB p.rk ++ ⟨#[10]⟩ : ByteArray).data.toList = T.data.toList ++ dlA p) := by
            show _ = _
            simp only [app_list]; simp [dlA, itB, fmB, kPro, kEst, kCre, kAmo, kInc, kRan]
          go_wp2_with fail
          clear y0 y1 y2 y3 y4 y5 y6 y7 y8 y9 y10 y11 y12 y13
          obtain ⟨g4, HG4⟩ := name_it wr.heap.size
          rw [HG4.out] at b ⊢
          obtain ⟨w0, HW0⟩ := name_it (wr.alloc (.cells #[.string p.id, .int .i64 p.es, .int .i64 p.cr, .string p.cd, .bool p.am.neg, .string p.am.num, .string p.am.den, .int .i64 p.inc, .int .i64 p.rk, .bool p.rt.neg, .string p.rt.num, .string p.rt.den, .int .i64 p.rf, .int .i64 p.sec] 27))
          rw [HW0.out] at b hca hga hxa ⊢
          have st : LSt w w0 g4 p (some ⟨g, o, none⟩) xs := ⟨⟨b, hca, hga⟩, hxa⟩
          clear b hca hga hxa
          replace st := st.keep0 (Chg.refl [] w0).drew
          have hcz := st.d.ch
          refine wp_region_held_drew (S := (fun w' => w'.cell? ⟨g4, 0, none⟩ = some (.string p.id) ∧ w'.cell? ⟨g4, 1, none⟩ = some (.int .i64 p.es) ∧ w'.cell? ⟨g4, 2, none⟩ = some (.int .i64 p.cr) ∧ w'.cell? ⟨g4, 3, none⟩ = some (.string p.cd) ∧ w'.cell? ⟨g4, 4, none⟩ = some (.bool p.am.neg) ∧ w'.cell? ⟨g4, 5, none⟩ = some (.string p.am.num) ∧ w'.cell? ⟨g4, 6, none⟩ = some (.string p.am.den) ∧ w'.cell? ⟨g4, 7, none⟩ = some (.int .i64 p.inc) ∧ w'.cell? ⟨g4, 8, none⟩ = some (.int .i64 p.rk) ∧ w'.cell? ⟨g4, 9, none⟩ = some (.bool p.rt.neg) ∧ w'.cell? ⟨g4, 10, none⟩ = some (.string p.rt.num) ∧ w'.cell? ⟨g4, 11, none⟩ = some (.string p.rt.den) ∧ w'.cell? ⟨g4, 12, none⟩ = some (.int .i64 p.rf) ∧ w'.cell? ⟨g4, 13, none⟩ = some (.int .i64 p.sec))) (by kernel_rfl) ?_ (fun hHeld => ?_)
          · exact ⟨st.d.c0, st.d.c1, st.d.c2, st.d.c3, st.d.c4, st.d.c5, st.d.c6, st.d.c7, st.d.c8, st.d.c9, st.d.c10, st.d.c11, st.d.c12, st.d.c13⟩
          obtain ⟨wz, HWz⟩ := name_it w0.drew
          rw [HWz.out] at st hcz hHeld ⊢
          refine wpAnyH_take (i := 0) (v := ?_) rfl (by kernel_rfl) (by kernel_rfl) (by kernel_rfl) (fun _ _ _ h => h) (Or.inl ⟨by rfl, ?_⟩) (by assumption) ?_
          rotate_left 1
          · intro w hSw
            try dsimp only at hSw
            go_simp
            try with_reducible rfl
          try simp only [List.getElem_toArray, List.getElem_cons_zero]
          try simp only [Act.put, List.setIfInBounds_toArray, List.set_cons_zero, List.set_cons_succ]
          refine wpAnyH_take (i := 2) (v := ?_) rfl (by kernel_rfl) (by kernel_rfl) (by kernel_rfl) (fun _ _ _ h => h) (Or.inl ⟨by rfl, ?_⟩) (by assumption) ?_
          rotate_left 1
          · intro w hSw
            try dsimp only at hSw
            go_simp
            try with_reducible rfl
          try simp only [List.getElem_toArray, List.getElem_cons_succ, List.getElem_cons_zero]
          try simp only [Act.put, List.setIfInBounds_toArray, List.set_cons_zero, List.set_cons_succ]
          refine wpAnyH_take (i := 6) (v := ?_) rfl (by kernel_rfl) (by kernel_rfl) (by kernel_rfl) (fun _ _ _ h => h) (Or.inl ⟨by rfl, ?_⟩) (by assumption) ?_
          rotate_left 1
          · intro w hSw
            try dsimp only at hSw
            go_simp
            try with_reducible rfl
          try simp only [List.getElem_toArray, List.getElem_cons_succ, List.getElem_cons_zero]
          try simp only [Act.put, List.setIfInBounds_toArray, List.set_cons_zero, List.set_cons_succ]
          refine wpAnyH_take (i := 11) (v := ?_) rfl (by kernel_rfl) (by kernel_rfl) (by kernel_rfl) (fun _ _ _ h => h) (Or.inl ⟨by rfl, ?_⟩) (by assumption) ?_
          rotate_left 1
          · intro w hSw
            try dsimp only at hSw
            go_simp
            try with_reducible rfl
          try simp only [List.getElem_toArray, List.getElem_cons_succ, List.getElem_cons_zero]
          try simp only [Act.put, List.setIfInBounds_toArray, List.set_cons_zero, List.set_cons_succ]
          refine wpAnyH_take (i := 16) (v := ?_) rfl (by kernel_rfl) (by kernel_rfl) (by kernel_rfl) (fun _ _ _ h => h) (Or.inl ⟨by rfl, ?_⟩) (by assumption) ?_
          rotate_left 1
          · intro w hSw
            try dsimp only at hSw
            go_simp
            try with_reducible rfl
          try simp only [List.getElem_toArray, List.getElem_cons_succ, List.getElem_cons_zero]
          try simp only [Act.put, List.setIfInBounds_toArray, List.set_cons_zero, List.set_cons_succ]
          refine wpAnyH_take (i := 20) (v := ?_) rfl (by kernel_rfl) (by kernel_rfl) (by kernel_rfl) (fun _ _ _ h => h) (Or.inl ⟨by rfl, ?_⟩) (by assumption) ?_
          rotate_left 1
          · intro w hSw
            try dsimp only at hSw
            go_simp
            try with_reducible rfl
          try simp only [List.getElem_toArray, List.getElem_cons_succ, List.getElem_cons_zero]
          try simp only [Act.put, List.setIfInBounds_toArray, List.set_cons_zero, List.set_cons_succ]
          refine wpAnyH_take (i := 25) (v := ?_) rfl (by kernel_rfl) (by kernel_rfl) (by kernel_rfl) (fun _ _ _ h => h) (Or.inl ⟨by rfl, ?_⟩) (by assumption) ?_
          rotate_left 1
          · intro w hSw
            try dsimp only at hSw
            go_simp
            try with_reducible rfl
          try simp only [List.getElem_toArray, List.getElem_cons_succ, List.getElem_cons_zero]
          try simp only [Act.put, List.setIfInBounds_toArray, List.set_cons_zero, List.set_cons_succ]
          refine wpAnyH_take (i := 30) (v := ?_) rfl (by kernel_rfl) (by kernel_rfl) (by kernel_rfl) (fun _ _ _ h => h) (Or.inl ⟨by rfl, ?_⟩) (by assumption) ?_
          rotate_left 1
          · intro w hSw
            try dsimp only at hSw
            go_simp
            try with_reducible rfl
          try simp only [List.getElem_toArray, List.getElem_cons_succ, List.getElem_cons_zero]
          try simp only [Act.put, List.setIfInBounds_toArray, List.set_cons_zero, List.set_cons_succ]
          refine wpAnyH_take (i := 1) (v := ?_) rfl (by kernel_rfl) (by kernel_rfl) (by kernel_rfl) (fun _ _ _ h => h) (Or.inl ⟨by rfl, ?_⟩) (by assumption) ?_
          rotate_left 1
          · intro w hSw
            try dsimp only at hSw
            go_simp
            rw [if_neg (by (try simp only [ByteArray.size_append]); omega)]
            try with_reducible rfl
          try simp only [List.getElem_toArray, List.getElem_cons_succ, List.getElem_cons_zero]
          try simp only [Act.put, List.setIfInBounds_toArray, List.set_cons_zero, List.set_cons_succ]
          refine wpAnyH_take (i := 3) (v := ?_) rfl (by kernel_rfl) (by kernel_rfl) (by kernel_rfl) (fun _ _ _ h => h) (Or.inl ⟨by rfl, ?_⟩) (by assumption) ?_
          rotate_left 1
          · intro w hSw
            try dsimp only at hSw
            go_simp
            try with_reducible rfl
          try simp only [List.getElem_toArray, List.getElem_cons_succ, List.getElem_cons_zero]
          try simp only [Act.put, List.setIfInBounds_toArray, List.set_cons_zero, List.set_cons_succ]
          refine wpAnyH_take (i := 7) (v := ?_) rfl (by kernel_rfl) (by kernel_rfl) (by kernel_rfl) (fun _ _ _ h => h) (Or.inl ⟨by rfl, ?_⟩) (by assumption) ?_
          rotate_left 1
          · intro w hSw
            try dsimp only at hSw
            go_simp
            try with_reducible rfl
          try simp only [List.getElem_toArray, List.getElem_cons_succ, List.getElem_cons_zero]
          try simp only [Act.put, List.setIfInBounds_toArray, List.set_cons_zero, List.set_cons_succ]
          refine wpAnyH_take (i := 12) (v := ?_) rfl (by kernel_rfl) (by kernel_rfl) (by kernel_rfl) (fun _ _ _ h => h) (Or.inl ⟨by rfl, ?_⟩) (by assumption) ?_
          rotate_left 1
          · intro w hSw
            try dsimp only at hSw
            go_simp
            try with_reducible rfl
          try simp only [List.getElem_toArray, List.getElem_cons_succ, List.getElem_cons_zero]
          try simp only [Act.put, List.setIfInBounds_toArray, List.set_cons_zero, List.set_cons_succ]
          refine wpAnyH_take (i := 17) (v := ?_) rfl (by kernel_rfl) (by kernel_rfl) (by kernel_rfl) (fun _ _ _ h => h) (Or.inl ⟨by rfl, ?_⟩) (by assumption) ?_
          rotate_left 1
          · intro w hSw
            try dsimp only at hSw
            go_simp
            try with_reducible rfl
          try simp only [List.getElem_toArray, List.getElem_cons_succ, List.getElem_cons_zero]
          try simp only [Act.put, List.setIfInBounds_toArray, List.set_cons_zero, List.set_cons_succ]
          refine wpAnyH_take (i := 21) (v := ?_) rfl (by kernel_rfl) (by kernel_rfl) (by kernel_rfl) (fun _ _ _ h => h) (Or.inl ⟨by rfl, ?_⟩) (by assumption) ?_
          rotate_left 1
          · intro w hSw
            try dsimp only at hSw
            go_simp
            try with_reducible rfl
          try simp only [List.getElem_toArray, List.getElem_cons_succ, List.getElem_cons_zero]
          try simp only [Act.put, List.setIfInBounds_toArray, List.set_cons_zero, List.set_cons_succ]
          refine wpAnyH_take (i := 26) (v := ?_) rfl (by kernel_rfl) (by kernel_rfl) (by kernel_rfl) (fun _ _ _ h => h) (Or.inl ⟨by rfl, ?_⟩) (by assumption) ?_
          rotate_left 1
          · intro w hSw
            try dsimp only at hSw
            go_simp
            try with_reducible rfl
          try simp only [List.getElem_toArray, List.getElem_cons_succ, List.getElem_cons_zero]
          try simp only [Act.put, List.setIfInBounds_toArray, List.set_cons_zero, List.set_cons_succ]
          refine wpAnyH_take (i := 31) (v := ?_) rfl (by kernel_rfl) (by kernel_rfl) (by kernel_rfl) (fun _ _ _ h => h) (Or.inl ⟨by rfl, ?_⟩) (by assumption) ?_
          rotate_left 1
          · intro w hSw
            try dsimp only at hSw
            go_simp
            try with_reducible rfl
          try simp only [List.getElem_toArray, List.getElem_cons_succ, List.getElem_cons_zero]
          try simp only [Act.put, List.setIfInBounds_toArray, List.set_cons_zero, List.set_cons_succ]
          refine wpAnyH_take (i := 4) (v := ?_) rfl (by kernel_rfl) (by kernel_rfl) (by kernel_rfl) (fun _ _ _ h => h) (Or.inl ⟨by rfl, ?_⟩) (by assumption) ?_
          rotate_left 1
          · intro w hSw
            try dsimp only at hSw
            go_simp
            rw [if_neg (by (try simp only [ByteArray.size_append]); omega)]
            try with_reducible rfl
          try simp only [List.getElem_toArray, List.getElem_cons_succ, List.getElem_cons_zero]
          try simp only [Act.put, List.setIfInBounds_toArray, List.set_cons_zero, List.set_cons_succ]
          refine wpAnyH_take (i := 5) (v := ?_) rfl (by kernel_rfl) (by kernel_rfl) (by kernel_rfl) (fun _ _ _ h => h) (Or.inl ⟨by rfl, ?_⟩) (by assumption) ?_
          rotate_left 1
          · intro w hSw
            try dsimp only at hSw
            go_simp
            rw [if_neg (by (try simp only [ByteArray.size_append]); omega)]
            try with_reducible rfl
          try simp only [List.getElem_toArray, List.getElem_cons_succ, List.getElem_cons_zero]
          try simp only [Act.put, List.setIfInBounds_toArray, List.set_cons_zero, List.set_cons_succ]
          refine wpAnyH_ready (rs := [8]) (by kernel_rfl) (by simp) ?_
          refine AllReadyH.cons (o := _) rfl (fun K' hK => ?_) AllReadyH.nil
          go_simp
          refine (rdec_any p.es N1.out.1 N1.out.2 _).mono ?_
          rintro e9 wl1 ⟨rfl, c6⟩
          replace st := st.keep0 c6
          replace hcz := hcz.then c6
          clear c6
          go_wp2_with fail
          refine hK.out _ _ ?_ (fun hHeld => ?_)
          · exact ⟨st.d.c0, st.d.c1, st.d.c2, st.d.c3, st.d.c4, st.d.c5, st.d.c6, st.d.c7, st.d.c8, st.d.c9, st.d.c10, st.d.c11, st.d.c12, st.d.c13⟩
          clear hK K'
          try simp only [Act.put, List.setIfInBounds_toArray, List.set_cons_zero, List.set_cons_succ]
          refine wpAnyH_take (i := 9) (v := ?_) rfl (by kernel_rfl) (by kernel_rfl) (by kernel_rfl) (fun _ _ _ h => h) (Or.inl ⟨by rfl, ?_⟩) (by assumption) ?_
          rotate_left 1
          · intro w hSw
            try dsimp only at hSw
            go_simp
            rw [if_neg (by (try simp only [ByteArray.size_append]); omega)]
            try with_reducible rfl
          try simp only [List.getElem_toArray, List.getElem_cons_succ, List.getElem_cons_zero]
          try simp only [Act.put, List.setIfInBounds_toArray, List.set_cons_zero, List.set_cons_succ]
          refine wpAnyH_take (i := 10) (v := ?_) rfl (by kernel_rfl) (by kernel_rfl) (by kernel_rfl) (fun _ _ _ h => h) (Or.inl ⟨by rfl, ?_⟩) (by assumption) ?_
          rotate_left 1
          · intro w hSw
            try dsimp only at hSw
            go_simp
            rw [if_neg (by (try simp only [ByteArray.size_append]); omega)]
            try with_reducible rfl
          try simp only [List.getElem_toArray, List.getElem_cons_succ, List.getElem_cons_zero]
          try simp only [Act.put, List.setIfInBounds_toArray, List.set_cons_zero, List.set_cons_succ]
          refine wpAnyH_ready (rs := [13]) (by kernel_rfl) (by simp) ?_
          refine AllReadyH.cons (o := _) rfl (fun K' hK => ?_) AllReadyH.nil
          go_simp
          refine (rdec_any p.cr N2.out.1 N2.out.2 _).mono ?_
          rintro e9 wl2 ⟨rfl, c6⟩
          replace st := st.keep0 c6
          replace hcz := hcz.then c6
          clear c6
          go_wp2_with fail
          refine hK.out _ _ ?_ (fun hHeld => ?_)
          · exact ⟨st.d.c0, st.d.c1, st.d.c2, st.d.c3, st.d.c4, st.d.c5, st.d.c6, st.d.c7, st.d.c8, st.d.c9, st.d.c10, st.d.c11, st.d.c12, st.d.c13⟩
          clear hK K'
          try simp only [Act.put, List.setIfInBounds_toArray, List.set_cons_zero, List.set_cons_succ]
          refine wpAnyH_take (i := 14) (v := ?_) rfl (by kernel_rfl) (by kernel_rfl) (by kernel_rfl) (fun _ _ _ h => h) (Or.inl ⟨by rfl, ?_⟩) (by assumption) ?_
          rotate_left 1
          · intro w hSw
            try dsimp only at hSw
            go_simp
            rw [if_neg (by (try simp only [ByteArray.size_append]); omega)]
            try with_reducible rfl
          try simp only [List.getElem_toArray, List.getElem_cons_succ, List.getElem_cons_zero]
          try simp only [Act.put, List.setIfInBounds_toArray, List.set_cons_zero, List.set_cons_succ]
          refine wpAnyH_take (i := 15) (v := ?_) rfl (by kernel_rfl) (by kernel_rfl) (by kernel_rfl) (fun _ _ _ h => h) (Or.inl ⟨by rfl, ?_⟩) (by assumption) ?_
          rotate_left 1
          · intro w hSw
            try dsimp only at hSw
            go_simp
            rw [if_neg (by (try simp only [ByteArray.size_append]); omega)]
            try with_reducible rfl
          try simp only [List.getElem_toArray, List.getElem_cons_succ, List.getElem_cons_zero]
          try simp only [Act.put, List.setIfInBounds_toArray, List.set_cons_zero, List.set_cons_succ]
          refine wpAnyH_take (i := 18) (v := ?_) rfl (by kernel_rfl) (by kernel_rfl) (by kernel_rfl) (fun _ _ _ h => h) (Or.inl ⟨by rfl, ?_⟩) (by assumption) ?_
          rotate_left 1
          · intro w hSw
            try dsimp only at hSw
            go_simp
            rw [if_neg (by (try simp only [ByteArray.size_append]); omega)]
            try with_reducible rfl
          try simp only [List.getElem_toArray, List.getElem_cons_succ, List.getElem_cons_zero]
          try simp only [Act.put, List.setIfInBounds_toArray, List.set_cons_zero, List.set_cons_succ]
          refine wpAnyH_take (i := 19) (v := ?_) rfl (by kernel_rfl) (by kernel_rfl) (by kernel_rfl) (fun _ _ _ h => h) (Or.inl ⟨by rfl, ?_⟩) (by assumption) ?_
          rotate_left 1
          · intro w hSw
            try dsimp only at hSw
            go_simp
            rw [if_neg (by (try simp only [ByteArray.size_append]); omega)]
            try with_reducible rfl
          try simp only [List.getElem_toArray, List.getElem_cons_succ, List.getElem_cons_zero]
          try simp only [Act.put, List.setIfInBounds_toArray, List.set_cons_zero, List.set_cons_succ]
          refine wpAnyH_ready (rs := [22]) (by kernel_rfl) (by simp) ?_
          refine AllReadyH.cons (o := _) rfl (fun K' hK => ?_) AllReadyH.nil
          go_simp
          refine (rfmtP p.am _ HDC.out.fit.a).mono ?_
          rintro e9 wl3 ⟨rfl, c6⟩
          replace st := st.keep0 c6
          replace hcz := hcz.then c6
          clear c6
          go_wp2_with fail
          refine hK.out _ _ ?_ (fun hHeld => ?_)
          · exact ⟨st.d.c0, st.d.c1, st.d.c2, st.d.c3, st.d.c4, st.d.c5, st.d.c6, st.d.c7, st.d.c8, st.d.c9, st.d.c10, st.d.c11, st.d.c12, st.d.c13⟩
          clear hK K'
          try simp only [Act.put, List.setIfInBounds_toArray, List.set_cons_zero, List.set_cons_succ]
          refine wpAnyH_take (i := 23) (v := ?_) rfl (by kernel_rfl) (by kernel_rfl) (by kernel_rfl) (fun _ _ _ h => h) (Or.inl ⟨by rfl, ?_⟩) (by assumption) ?_
          rotate_left 1
          · intro w hSw
            try dsimp only at hSw
            go_simp
            rw [if_neg (by (try simp only [ByteArray.size_append]); omega)]
            try with_reducible rfl
          try simp only [List.getElem_toArray, List.getElem_cons_succ, List.getElem_cons_zero]
          try simp only [Act.put, List.setIfInBounds_toArray, List.set_cons_zero, List.set_cons_succ]
          refine wpAnyH_take (i := 24) (v := ?_) rfl (by kernel_rfl) (by kernel_rfl) (by kernel_rfl) (fun _ _ _ h => h) (Or.inl ⟨by rfl, ?_⟩) (by assumption) ?_
          rotate_left 1
          · intro w hSw
            try dsimp only at hSw
            go_simp
            rw [if_neg (by (try simp only [ByteArray.size_append]); omega)]
            try with_reducible rfl
          try simp only [List.getElem_toArray, List.getElem_cons_succ, List.getElem_cons_zero]
          try simp only [Act.put, List.setIfInBounds_toArray, List.set_cons_zero, List.set_cons_succ]
          refine wpAnyH_ready (rs := [27]) (by kernel_rfl) (by simp) ?_
          refine AllReadyH.cons (o := _) rfl (fun K' hK => ?_) AllReadyH.nil
          go_simp
          refine (rdec_any p.inc N3.out.1 N3.out.2 _).mono ?_
          rintro e9 wl4 ⟨rfl, c6⟩
          replace st := st.keep0 c6
          replace hcz := hcz.then c6
          clear c6
          go_wp2_with fail
          refine hK.out _ _ ?_ (fun hHeld => ?_)
          · exact ⟨st.d.c0, st.d.c1, st.d.c2, st.d.c3, st.d.c4, st.d.c5, st.d.c6, st.d.c7, st.d.c8, st.d.c9, st.d.c10, st.d.c11, st.d.c12, st.d.c13⟩
          clear hK K'
          try simp only [Act.put, List.setIfInBounds_toArray, List.set_cons_zero, List.set_cons_succ]
          refine wpAnyH_take (i := 28) (v := ?_) rfl (by kernel_rfl) (by kernel_rfl) (by kernel_rfl) (fun _ _ _ h => h) (Or.inl ⟨by rfl, ?_⟩) (by assumption) ?_
          rotate_left 1
          · intro w hSw
            try dsimp only at hSw
            go_simp
            rw [if_neg (by (try simp only [ByteArray.size_append]); omega)]
            try with_reducible rfl
          try simp only [List.getElem_toArray, List.getElem_cons_succ, List.getElem_cons_zero]
          try simp only [Act.put, List.setIfInBounds_toArray, List.set_cons_zero, List.set_cons_succ]
          refine wpAnyH_take (i := 29) (v := ?_) rfl (by kernel_rfl) (by kernel_rfl) (by kernel_rfl) (fun _ _ _ h => h) (Or.inl ⟨by rfl, ?_⟩) (by assumption) ?_
          rotate_left 1
          · intro w hSw
            try dsimp only at hSw
            go_simp
            rw [if_neg (by (try simp only [ByteArray.size_append]); omega)]
            try with_reducible rfl
          try simp only [List.getElem_toArray, List.getElem_cons_succ, List.getElem_cons_zero]
          try simp only [Act.put, List.setIfInBounds_toArray, List.set_cons_zero, List.set_cons_succ]
          refine wpAnyH_ready (rs := [32]) (by kernel_rfl) (by simp) ?_
          refine AllReadyH.cons (o := _) rfl (fun K' hK => ?_) AllReadyH.nil
          go_simp
          refine (rdec_any p.rk N4.out.1 N4.out.2 _).mono ?_
          rintro e9 wl5 ⟨rfl, c6⟩
          replace st := st.keep0 c6
          replace hcz := hcz.then c6
          clear c6
          go_wp2_with fail
          refine hK.out _ _ ?_ (fun hHeld => ?_)
          · exact ⟨st.d.c0, st.d.c1, st.d.c2, st.d.c3, st.d.c4, st.d.c5, st.d.c6, st.d.c7, st.d.c8, st.d.c9, st.d.c10, st.d.c11, st.d.c12, st.d.c13⟩
          clear hK K'
          try simp only [Act.put, List.setIfInBounds_toArray, List.set_cons_zero, List.set_cons_succ]
          refine wpAnyH_take (i := 33) (v := ?_) rfl (by kernel_rfl) (by kernel_rfl) (by kernel_rfl) (fun _ _ _ h => h) (Or.inl ⟨by rfl, ?_⟩) (by assumption) ?_
          rotate_left 1
          · intro w hSw
            try dsimp only at hSw
            go_simp
            rw [if_neg (by (try simp only [ByteArray.size_append]); omega)]
            try with_reducible rfl
          try simp only [List.getElem_toArray, List.getElem_cons_succ, List.getElem_cons_zero]
          try simp only [Act.put, List.setIfInBounds_toArray, List.set_cons_zero, List.set_cons_succ]
          refine wpAnyH_take (i := 34) (v := ?_) rfl (by kernel_rfl) (by kernel_rfl) (by kernel_rfl) (fun _ _ _ h => h) (Or.inl ⟨by rfl, ?_⟩) (by assumption) ?_
          rotate_left 1
          · intro w hSw
            try dsimp only at hSw
            go_simp
            rw [if_neg (by (try simp only [ByteArray.size_append]); omega)]
            try with_reducible rfl
          try simp only [List.getElem_toArray, List.getElem_cons_succ, List.getElem_cons_zero]
          try simp only [Act.put, List.setIfInBounds_toArray, List.set_cons_zero, List.set_cons_succ]
          refine wpAnyH_take (i := 35) (v := ?_) rfl (by kernel_rfl) (by kernel_rfl) (by kernel_rfl) (fun _ _ _ h => h) (Or.inl ⟨by rfl, ?_⟩) (by assumption) ?_
          rotate_left 1
          · intro w hSw
            try dsimp only at hSw
            go_simp
            try with_reducible rfl
          try simp only [List.getElem_toArray, List.getElem_cons_succ, List.getElem_cons_zero]
          try simp only [Act.put, List.setIfInBounds_toArray, List.set_cons_zero, List.set_cons_succ]
          refine wpAnyH_done (by kernel_rfl) ?_ _
          go_wp2_with fail
          obtain ⟨X, HX⟩ := name_it (T ++ ⟨#[112, 114, 111, 111, 102, 32]⟩ ++ p.id ++ ⟨#[10, 101, 115, 116, 97, 116, 101, 32]⟩ ++ itB p.es ++ ⟨#[10, 99, 114, 101, 100, 105, 116, 111, 114, 32]⟩ ++ itB p.cr ++ ⟨#[10, 97, 109, 111, 117, 110, 116, 32]⟩ ++ p.cd ++ ⟨#[32]⟩ ++ fmB (ratOf p.am) ++ ⟨#[10, 105, 110, 99, 117, 114, 114, 101, 100, 32]⟩ ++ itB p.inc ++ ⟨#[10, 114, 97, 110, 107, 32]⟩ ++ itB p.rk ++ ⟨#[10]⟩)
          have zX : X.size ≤ T.size + 200000 := by rw [← HX.out]; simp only [ByteArray.size_append]; omega
          rw [HX.out] at HXX ⊢
          clear HX Z1 Z2 Z3 i1 i2 i3 i4 q1 q2 q3 q4 q5 q6 q7
          refine (rsignP p.rt _ HDC.out.fit.r).mono ?_
          rintro e wS ⟨rfl, cS⟩
          replace st := st.keep0 cS
          clear cS hcz
          obtain ⟨SG, HSG⟩ := name_it (sg (ratOf p.rt))
          have HB0 : Hid (dlB p = if 0 < SG then kInt.data.toList ++ 32 :: fmtL (ratOf p.rt) ++ 32 :: kFro.data.toList ++ 32 :: itL p.rf ++ [10] else []) := by show _ = _; rw [← HSG.out]; rfl
          rw [HSG.out]
          by_cases h1 : 0 < SG
          · have d3 : decide (0 < SG) = true := decide_eq_true h1
            have HYY : Hid ((X ++ ⟨#[105, 110, 116, 101, 114, 101, 115, 116, 32]⟩ ++ fmB (ratOf p.rt) ++ ⟨#[32, 102, 114, 111, 109, 32]⟩ ++ itB p.rf ++ ⟨#[10]⟩ : ByteArray).data.toList = T.data.toList ++ (dlA p ++ dlB p)) := by
              show _ = _
              rw [HB0.out, if_pos h1]
              simp only [app_list, HXX.out]; simp [itB, fmB, kInt, kFro]
            clear h1 HB0 HSG
            go_wp2_with fail
            replace st := st.keep0 (Chg.refl [] wS).drew
            have hcz := st.d.ch
            refine wp_region_held_drew (S := (fun w' => w'.cell? ⟨g4, 0, none⟩ = some (.string p.id) ∧ w'.cell? ⟨g4, 1, none⟩ = some (.int .i64 p.es) ∧ w'.cell? ⟨g4, 2, none⟩ = some (.int .i64 p.cr) ∧ w'.cell? ⟨g4, 3, none⟩ = some (.string p.cd) ∧ w'.cell? ⟨g4, 4, none⟩ = some (.bool p.am.neg) ∧ w'.cell? ⟨g4, 5, none⟩ = some (.string p.am.num) ∧ w'.cell? ⟨g4, 6, none⟩ = some (.string p.am.den) ∧ w'.cell? ⟨g4, 7, none⟩ = some (.int .i64 p.inc) ∧ w'.cell? ⟨g4, 8, none⟩ = some (.int .i64 p.rk) ∧ w'.cell? ⟨g4, 9, none⟩ = some (.bool p.rt.neg) ∧ w'.cell? ⟨g4, 10, none⟩ = some (.string p.rt.num) ∧ w'.cell? ⟨g4, 11, none⟩ = some (.string p.rt.den) ∧ w'.cell? ⟨g4, 12, none⟩ = some (.int .i64 p.rf) ∧ w'.cell? ⟨g4, 13, none⟩ = some (.int .i64 p.sec))) (by kernel_rfl) ?_ (fun hHeld => ?_)
            · exact ⟨st.d.c0, st.d.c1, st.d.c2, st.d.c3, st.d.c4, st.d.c5, st.d.c6, st.d.c7, st.d.c8, st.d.c9, st.d.c10, st.d.c11, st.d.c12, st.d.c13⟩
            obtain ⟨wz, HWz⟩ := name_it wS.drew
            rw [HWz.out] at st hcz hHeld ⊢
            refine wpAnyH_take (i := 0) (v := ?_) rfl (by kernel_rfl) (by kernel_rfl) (by kernel_rfl) (fun _ _ _ h => h) (Or.inl ⟨by rfl, ?_⟩) (by assumption) ?_
            rotate_left 1
            · intro w hSw
              try dsimp only at hSw
              go_simp
              try with_reducible rfl
            try simp only [List.getElem_toArray, List.getElem_cons_zero]
            try simp only [Act.put, List.setIfInBounds_toArray, List.set_cons_zero, List.set_cons_succ]
            refine wpAnyH_take (i := 2) (v := ?_) rfl (by kernel_rfl) (by kernel_rfl) (by kernel_rfl) (fun _ _ _ h => h) (Or.inl ⟨by rfl, ?_⟩) (by assumption) ?_
            rotate_left 1
            · intro w hSw
              try dsimp only at hSw
              go_simp
              try with_reducible rfl
            try simp only [List.getElem_toArray, List.getElem_cons_succ, List.getElem_cons_zero]
            try simp only [Act.put, List.setIfInBounds_toArray, List.set_cons_zero, List.set_cons_succ]
            refine wpAnyH_take (i := 7) (v := ?_) rfl (by kernel_rfl) (by kernel_rfl) (by kernel_rfl) (fun _ _ _ h => h) (Or.inl ⟨by rfl, ?_⟩) (by assumption) ?_
            rotate_left 1
            · intro w hSw
              try dsimp only at hSw
              go_simp
              try with_reducible rfl
            try simp only [List.getElem_toArray, List.getElem_cons_succ, List.getElem_cons_zero]
            try simp only [Act.put, List.setIfInBounds_toArray, List.set_cons_zero, List.set_cons_succ]
            refine wpAnyH_take (i := 1) (v := ?_) rfl (by kernel_rfl) (by kernel_rfl) (by kernel_rfl) (fun _ _ _ h => h) (Or.inl ⟨by rfl, ?_⟩) (by assumption) ?_
            rotate_left 1
            · intro w hSw
              try dsimp only at hSw
              go_simp
              rw [if_neg (by (try simp only [ByteArray.size_append]); omega)]
              try with_reducible rfl
            try simp only [List.getElem_toArray, List.getElem_cons_succ, List.getElem_cons_zero]
            try simp only [Act.put, List.setIfInBounds_toArray, List.set_cons_zero, List.set_cons_succ]
            refine wpAnyH_take (i := 3) (v := ?_) rfl (by kernel_rfl) (by kernel_rfl) (by kernel_rfl) (fun _ _ _ h => h) (Or.inl ⟨by rfl, ?_⟩) (by assumption) ?_
            rotate_left 1
            · intro w hSw
              try dsimp only at hSw
              go_simp
              try with_reducible rfl
            try simp only [List.getElem_toArray, List.getElem_cons_succ, List.getElem_cons_zero]
            try simp only [Act.put, List.setIfInBounds_toArray, List.set_cons_zero, List.set_cons_succ]
            refine wpAnyH_take (i := 8) (v := ?_) rfl (by kernel_rfl) (by kernel_rfl) (by kernel_rfl) (fun _ _ _ h => h) (Or.inl ⟨by rfl, ?_⟩) (by assumption) ?_
            rotate_left 1
            · intro w hSw
              try dsimp only at hSw
              go_simp
              try with_reducible rfl
            try simp only [List.getElem_toArray, List.getElem_cons_succ, List.getElem_cons_zero]
            try simp only [Act.put, List.setIfInBounds_toArray, List.set_cons_zero, List.set_cons_succ]
            refine wpAnyH_ready (rs := [4]) (by kernel_rfl) (by simp) ?_
            refine AllReadyH.cons (o := _) rfl (fun K' hK => ?_) AllReadyH.nil
            go_simp
            refine (rfmtP p.rt _ HDC.out.fit.r).mono ?_
            rintro e9 wl1 ⟨rfl, c6⟩
            replace st := st.keep0 c6
            replace hcz := hcz.then c6
            clear c6
            go_wp2_with fail
            refine hK.out _ _ ?_ (fun hHeld => ?_)
            · exact ⟨st.d.c0, st.d.c1, st.d.c2, st.d.c3, st.d.c4, st.d.c5, st.d.c6, st.d.c7, st.d.c8, st.d.c9, st.d.c10, st.d.c11, st.d.c12, st.d.c13⟩
            clear hK K'
            try simp only [Act.put, List.setIfInBounds_toArray, List.set_cons_zero, List.set_cons_succ]
            refine wpAnyH_take (i := 5) (v := ?_) rfl (by kernel_rfl) (by kernel_rfl) (by kernel_rfl) (fun _ _ _ h => h) (Or.inl ⟨by rfl, ?_⟩) (by assumption) ?_
            rotate_left 1
            · intro w hSw
              try dsimp only at hSw
              go_simp
              rw [if_neg (by (try simp only [ByteArray.size_append]); omega)]
              try with_reducible rfl
            try simp only [List.getElem_toArray, List.getElem_cons_succ, List.getElem_cons_zero]
            try simp only [Act.put, List.setIfInBounds_toArray, List.set_cons_zero, List.set_cons_succ]
            refine wpAnyH_take (i := 6) (v := ?_) rfl (by kernel_rfl) (by kernel_rfl) (by kernel_rfl) (fun _ _ _ h => h) (Or.inl ⟨by rfl, ?_⟩) (by assumption) ?_
            rotate_left 1
            · intro w hSw
              try dsimp only at hSw
              go_simp
              rw [if_neg (by (try simp only [ByteArray.size_append]); omega)]
              try with_reducible rfl
            try simp only [List.getElem_toArray, List.getElem_cons_succ, List.getElem_cons_zero]
            try simp only [Act.put, List.setIfInBounds_toArray, List.set_cons_zero, List.set_cons_succ]
            refine wpAnyH_ready (rs := [9]) (by kernel_rfl) (by simp) ?_
            refine AllReadyH.cons (o := _) rfl (fun K' hK => ?_) AllReadyH.nil
            go_simp
            refine (rdec_any p.rf N5.out.1 N5.out.2 _).mono ?_
            rintro e9 wl2 ⟨rfl, c6⟩
            replace st := st.keep0 c6
            replace hcz := hcz.then c6
            clear c6
            go_wp2_with fail
            refine hK.out _ _ ?_ (fun hHeld => ?_)
            · exact ⟨st.d.c0, st.d.c1, st.d.c2, st.d.c3, st.d.c4, st.d.c5, st.d.c6, st.d.c7, st.d.c8, st.d.c9, st.d.c10, st.d.c11, st.d.c12, st.d.c13⟩
            clear hK K'
            try simp only [Act.put, List.setIfInBounds_toArray, List.set_cons_zero, List.set_cons_succ]
            refine wpAnyH_take (i := 10) (v := ?_) rfl (by kernel_rfl) (by kernel_rfl) (by kernel_rfl) (fun _ _ _ h => h) (Or.inl ⟨by rfl, ?_⟩) (by assumption) ?_
            rotate_left 1
            · intro w hSw
              try dsimp only at hSw
              go_simp
              rw [if_neg (by (try simp only [ByteArray.size_append]); omega)]
              try with_reducible rfl
            try simp only [List.getElem_toArray, List.getElem_cons_succ, List.getElem_cons_zero]
            try simp only [Act.put, List.setIfInBounds_toArray, List.set_cons_zero, List.set_cons_succ]
            refine wpAnyH_take (i := 11) (v := ?_) rfl (by kernel_rfl) (by kernel_rfl) (by kernel_rfl) (fun _ _ _ h => h) (Or.inl ⟨by rfl, ?_⟩) (by assumption) ?_
            rotate_left 1
            · intro w hSw
              try dsimp only at hSw
              go_simp
              rw [if_neg (by (try simp only [ByteArray.size_append]); omega)]
              try with_reducible rfl
            try simp only [List.getElem_toArray, List.getElem_cons_succ, List.getElem_cons_zero]
            try simp only [Act.put, List.setIfInBounds_toArray, List.set_cons_zero, List.set_cons_succ]
            refine wpAnyH_take (i := 12) (v := ?_) rfl (by kernel_rfl) (by kernel_rfl) (by kernel_rfl) (fun _ _ _ h => h) (Or.inl ⟨by rfl, ?_⟩) (by assumption) ?_
            rotate_left 1
            · intro w hSw
              try dsimp only at hSw
              go_simp
              try with_reducible rfl
            try simp only [List.getElem_toArray, List.getElem_cons_succ, List.getElem_cons_zero]
            try simp only [Act.put, List.setIfInBounds_toArray, List.set_cons_zero, List.set_cons_succ]
            refine wpAnyH_done (by kernel_rfl) ?_ _
            obtain ⟨Y, HY⟩ := name_it (X ++ ⟨#[105, 110, 116, 101, 114, 101, 115, 116, 32]⟩ ++ fmB (ratOf p.rt) ++ ⟨#[32, 102, 114, 111, 109, 32]⟩ ++ itB p.rf ++ ⟨#[10]⟩)
            have zY : Y.size ≤ X.size + 100000 := by rw [← HY.out]; simp only [ByteArray.size_append]; omega
            rw [HY.out] at HYY ⊢
            have hY := HYY
            clear HY HYY d3 hcz
            have k13 := st.d.c13
            rcases HSEC.out with h2 | h2
            · have d2 : decide ((0 : Int) ≤ p.sec) = false := by rw [h2]; rfl
              have hfin : Hid (Y.data.toList = docsL (xs.take (j + 1))) := by
                show _ = _
                rw [hTL.out, docL_split, show dlC p = [] from if_neg (by simp [h2]), List.append_nil, hY.out]
              clear h2 HSEC
              go_wp2_with fail
              go_roundw
              case rel => exact ⟨j + 1, Y, by omega, by go_num, rfl, hfin.out, by omega, st.l, st.d.ch⟩
              case measure => simp [intOf]; omega
            · have d2 : decide ((0 : Int) ≤ p.sec) = true := by simp; omega
              have N6 : 0 ≤ p.sec ∧ p.sec ≤ 9223372036854775807 := ⟨h2.1, by omega⟩
              have i6 : (itB p.sec).size ≤ 20000 := itB_small _ N6.1 N6.2
              have hfin : Hid ((Y ++ ⟨#[115, 101, 99, 117, 114, 101, 100, 32]⟩ ++ itB p.sec ++ ⟨#[10]⟩ : ByteArray).data.toList = docsL (xs.take (j + 1))) := by
                show _ = _
                rw [hTL.out, docL_split, show dlC p = kSec.data.toList ++ 32 :: itL p.sec ++ [10] from if_pos (by omega)]
                simp only [app_list, hY.out]; simp [itB, kSec]
              clear HSEC
              go_wp2_with (first
                | (go_at_call 48
                   refine (rdec_any p.sec N6.1 N6.2 _).mono ?_
                   rintro e w8 ⟨rfl, c8⟩
                   have st8 := st.keep0 c8)
                | fail)
              obtain ⟨Z, HZZ⟩ := name_it (Y ++ ⟨#[115, 101, 99, 117, 114, 101, 100, 32]⟩ ++ itB p.sec ++ ⟨#[10]⟩)
              have zZ : Z.size ≤ Y.size + 30000 := by rw [← HZZ.out]; simp only [ByteArray.size_append]; omega
              rw [HZZ.out] at hfin ⊢
              go_roundw
              case rel => exact ⟨j + 1, Z, by omega, by go_num, rfl, hfin.out, by omega, st8.l, st8.d.ch⟩
              case measure => simp [intOf]; omega
          · have d3 : decide (0 < SG) = false := decide_eq_false h1
            obtain ⟨Y, HY⟩ := name_it X
            have hY : Hid (Y.data.toList = T.data.toList ++ (dlA p ++ dlB p)) := by
              show _ = _
              rw [HB0.out, if_neg h1, ← HY.out, HXX.out]; simp
            have zY : Y.size ≤ X.size + 100000 := by rw [← HY.out]; omega
            rw [HY.out]
            clear h1 HB0 HSG
            have k13 := st.d.c13
            rcases HSEC.out with h2 | h2
            · have d2 : decide ((0 : Int) ≤ p.sec) = false := by rw [h2]; rfl
              have hfin : Hid (Y.data.toList = docsL (xs.take (j + 1))) := by
                show _ = _
                rw [hTL.out, docL_split, show dlC p = [] from if_neg (by simp [h2]), List.append_nil, hY.out]
              clear h2 HSEC
              go_wp2_with fail
              go_roundw
              case rel => exact ⟨j + 1, Y, by omega, by go_num, rfl, hfin.out, by omega, st.l, st.d.ch⟩
              case measure => simp [intOf]; omega
            · have d2 : decide ((0 : Int) ≤ p.sec) = true := by simp; omega
              have N6 : 0 ≤ p.sec ∧ p.sec ≤ 9223372036854775807 := ⟨h2.1, by omega⟩
              have i6 : (itB p.sec).size ≤ 20000 := itB_small _ N6.1 N6.2
              have hfin : Hid ((Y ++ ⟨#[115, 101, 99, 117, 114, 101, 100, 32]⟩ ++ itB p.sec ++ ⟨#[10]⟩ : ByteArray).data.toList = docsL (xs.take (j + 1))) := by
                show _ = _
                rw [hTL.out, docL_split, show dlC p = kSec.data.toList ++ 32 :: itL p.sec ++ [10] from if_pos (by omega)]
                simp only [app_list, hY.out]; simp [itB, kSec]
              clear HSEC
              go_wp2_with (first
                | (go_at_call 48
                   refine (rdec_any p.sec N6.1 N6.2 _).mono ?_
                   rintro e w8 ⟨rfl, c8⟩
                   have st8 := st.keep0 c8)
                | fail)
              obtain ⟨Z, HZZ⟩ := name_it (Y ++ ⟨#[115, 101, 99, 117, 114, 101, 100, 32]⟩ ++ itB p.sec ++ ⟨#[10]⟩)
              have zZ : Z.size ≤ Y.size + 30000 := by rw [← HZZ.out]; simp only [ByteArray.size_append]; omega
              rw [HZZ.out] at hfin ⊢
              go_roundw
              case rel => exact ⟨j + 1, Z, by omega, by go_num, rfl, hfin.out, by omega, st8.l, st8.d.ch⟩
              case measure => simp [intOf]; omega
        · have hjn : j = i := by omega
          subst hjn
          have htk : Hid (docsL (xs.take j) = docsL xs) := by show _ = _; rw [← HN.out, List.take_length]
          have hTD : Hid (T.data.toList = docsL xs) := by show _ = _; rw [HT.out, htk.out]
          clear HT htk
          go_wp2_with fail
          refine (rLines_any T _ (by omega)).mono ?_
          rintro e w7 ⟨v, rfl, ⟨hown, _, c7⟩⟩
          have hc7 := hcr.then c7
          obtain ⟨N, HNN⟩ := name_it (linesB T).length
          have hlen : Hid ((lnE (docsL xs)).length = N) := by show _ = _; rw [← HNN.out, ← hTD.out]; simp [linesB]
          have hsz : Hid ((docsL xs).length = T.size) := by show _ = _; rw [← hTD.out, size_len]
          obtain ⟨Av, cap, rfl, hcap, _, _⟩ := hown.rds
          rw [HNN.out]
          have HFL : Hid (longB (docsL xs) = (decide (8192 < T.size) || decide (512 < N))) := by show _ = _; unfold longB; rw [hlen.out, hsz.out]
          rw [HFL.out] at HFE
          by_cases z1 : 8192 < T.size
          · have d4 : decide (8192 < (T.size : Int)) = true := by simp; omega
            have hFE : Hid (fmtE xs = 2) := by show _ = _; rw [HFE.out, decide_eq_true z1]; rfl
            have hFT : Hid (fmtT xs = []) := by show _ = _; unfold fmtT; rw [hFE.out, if_pos (by decide)]
            clear z1 HFE HFL
            go_wp2_with fail
            go_ret2
            exact ⟨ret_eq (by rw [hFE.out, hFT.out]; rfl), hc7⟩
          · have d4 : decide (8192 < (T.size : Int)) = false := by simp; omega
            rw [decide_eq_false z1, Bool.false_or] at HFE
            by_cases z2 : 512 < N
            · have d5 : decide (512 < (N : Int)) = true := by simp; omega
              have hFE : Hid (fmtE xs = 2) := by show _ = _; rw [HFE.out, decide_eq_true z2]; rfl
              have hFT : Hid (fmtT xs = []) := by show _ = _; unfold fmtT; rw [hFE.out, if_pos (by decide)]
              clear z1 z2 HFE HFL
              go_wp2_with fail
              go_ret2
              exact ⟨ret_eq (by rw [hFE.out, hFT.out]; rfl), hc7⟩
            · have d5 : decide (512 < (N : Int)) = false := by simp; omega
              have hFE : Hid (fmtE xs = 0) := by show _ = _; rw [HFE.out, decide_eq_false z2]; rfl
              have hFT : Hid (⟨(fmtT xs).toArray⟩ = T) := by
                show _ = _
                unfold fmtT
                rw [hFE.out, if_neg (by simp), ← hTD.out, ba_eta]
              clear z1 z2 HFE HFL
              go_wp2_with fail
              go_ret2
              exact ⟨ret_eq (by rw [hFE.out, hFT.out]; rfl), hc7⟩
end Go.Proofs.YtogciehmdlfkfaaGreatDoor
