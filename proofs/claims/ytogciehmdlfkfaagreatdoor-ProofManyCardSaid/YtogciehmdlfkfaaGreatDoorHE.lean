/-
  Several parts put together: DX12, DX13.
-/
import Derived.Test.YtogciehmdlfkfaaGreatDoorHC
import Derived.Test.YtogciehmdlfkfaaGreatDoorHX
/- Part DX12. -/

namespace Go.Proofs.YtogciehmdlfkfaaGreatDoor
open Go.RowKit Nd

/-- What is known of the documents of a list. -/
structure Docs (xs : List Pf) : Prop where
  fit : ∀ p ∈ xs, FitP p
  doc : allE xs = 0 → ∀ p ∈ xs, DocP p
theorem allFrom_step (l : List Pf) (f i : Nat) (h : i < l.length) : allFrom l (f + 1) i = if chkE (l.getD i pf0) ≠ 0 then chkE (l.getD i pf0) else if (l.take i).any (fun p => decide (p.id = (l.getD i pf0).id)) then 12 else allFrom l f (i + 1) := by
  rw [allFrom, if_pos h]
set_option maxRecDepth 20000 in
set_option maxHeartbeats 4000000 in
theorem checkAll_any (xs : List Pf) (A : Option Addr) (n c : Nat) (w : World) (hn : xs.length = n) (hn2 : n ≤ 1000000) (hc : n ≤ c) (hc2 : c ≤ 9223372036854775807) (hx : SPf w A xs) (hd : ∀ p ∈ xs, FitP p) :
    Calls Tryz.prog 45 #[.slice A n c] w fun e w' => e = .returned (.int .i64 (allE xs)) ∧ Chg [] w w' := by
  obtain ⟨R, HR⟩ := name_it (allE xs)
  have HRR : Hid (R = allE xs) := HR.out.symm
  rw [HR.out]
  unfold allE at HRR
  have HN := Lib.hid hn
  have HD := Lib.hid hd
  rw [hn] at HRR
  clear hn HR hd
  by_cases h64 : 64 < n
  · have hR : Hid (R = 2) := by show _ = _; rw [HRR.out, if_pos h64]
    have d1 : decide (64 < (n : Int)) = true := by simp; omega
    clear HRR hx
    go_enter Tryz.func45, Tryz.ntmps45
    go_wp2
    go_ret
    exact ⟨ret_eq (by rw [hR.out]; rfl), Chg.refl _ _⟩
  · have hR : Hid (R = allFrom xs n 0) := by show _ = _; rw [HRR.out, if_neg h64]
    have d1 : decide (64 < (n : Int)) = false := by simp; omega
    clear HRR
    go_enter Tryz.func45, Tryz.ntmps45
    go_wp2
    clear d1
    go_loopw [11] (fun iv wr => ∃ i : Nat, i ≤ n ∧ iv = .int .i64 i ∧ R = allFrom xs (n - i) i ∧ SPf wr A xs ∧ Chg [] w wr) (fun iv _ => n - (intOf iv).toNat)
    case atStart => exact ⟨0, by omega, rfl, by rw [hR.out]; rfl, hx, Chg.refl _ _⟩
    case round =>
      obtain ⟨i, hi, rfl, hq, hxr, hch⟩ := hrel
      have HQ := Lib.hid hq
      clear hq hx hR
      by_cases hlt : i < n
      · obtain ⟨p, HP⟩ := name_it (xs.getD i pf0)
        have hQ2 : Hid (R = if chkE p ≠ 0 then chkE p else if (xs.take i).any (fun q => decide (q.id = p.id)) then 12 else allFrom xs (n - (i + 1)) (i + 1)) := by
          show _ = _
          rw [HQ.out, show n - i = (n - (i + 1)) + 1 by omega, allFrom_step xs _ i (by rw [HN.out]; exact hlt), HP.out]
        have HFP : Hid (FitP p) := by show FitP p; rw [← HP.out]; exact HD.out _ (memPf (by rw [HN.out]; exact hlt))
        have HX1 := Lib.hid hxr
        obtain ⟨g, o, rfl, l1, k1⟩ := hxr (by rw [HN.out]; omega)
        have hcc := k1 i (by rw [HN.out]; omega)
        rw [HP.out] at hcc
        obtain ⟨y0, y1, y2, y3, y4, y5, y6, y7, y8, y9, y10, y11, y12, y13, _⟩ := hcc
        have b := BlkPf.alloc wr (.string p.id) (.int .i64 p.es) (.int .i64 p.cr) (.string p.cd) (.bool p.am.neg) (.string p.am.num) (.string p.am.den) (.int .i64 p.inc) (.int .i64 p.rk) (.bool p.rt.neg) (.string p.rt.num) (.string p.rt.den) (.int .i64 p.rf) (.int .i64 p.sec) 27
        have c1 : Chg [] wr (wr.alloc (.cells #[.string p.id, .int .i64 p.es, .int .i64 p.cr, .string p.cd, .bool p.am.neg, .string p.am.num, .string p.am.den, .int .i64 p.inc, .int .i64 p.rk, .bool p.rt.neg, .string p.rt.num, .string p.rt.den, .int .i64 p.rf, .int .i64 p.sec] 27)) := (Chg.refl _ _).alloc _
        have HX2 := Lib.hid (HX1.out.keep0 c1)
        have hc2' := hch.then c1
        clear k1 c1 HX1
        obtain ⟨E, HE⟩ := name_it (chkE p)
        rw [HE.out] at hQ2
        have HT : Hid ((xs.take i).length = i) := by show _ = _; rw [List.length_take, HN.out]; omega
        obtain ⟨B, HB⟩ := name_it ((xs.take i).any fun q => decide (q.id = p.id))
        rw [HB.out] at hQ2
        by_cases hE : E = 0
        · have dE : (E != 0) = false := by simpa using hE
          have hQ3 : Hid (R = if B = true then 12 else allFrom xs (n - (i + 1)) (i + 1)) := by show _ = _; rw [hQ2.out, if_neg (by simp [hE])]
          clear hE hQ2
          have hic : (i : Int) ≤ (c : Int) := by omega
          cases B with
          | true =>
            have hR : Hid (R = 12) := by show _ = _; rw [hQ3.out, if_pos rfl]
            clear hQ3
            go_wp2_with (first
              | (go_at_call 15
                 refine (Check_any p _ HFP.out).mono ?_
                 rintro e w5 ⟨rfl, c5⟩
                 rw [HE.out]
                 replace b := b.keep0 c5
                 have HX5 := Lib.hid (HX2.out.keep0 c5)
                 have hc5 := hc2'.then c5)
              | fail)
            obtain ⟨g4, HG4⟩ := name_it wr.heap.size
            rw [HG4.out] at b ⊢
            have c8 : Chg [] w5 w5.drew := (Chg.refl _ _).drew
            replace b := b.keep0 c8
            replace HX5 := Lib.hid (HX5.out.keep0 c8)
            replace hc5 := hc5.then c8
            clear c8 y0 y1 y2 y3 y4 y5 y6 y7 y8 y9 y10 y11 y12 y13
            have e5 : (0 : Int) ≤ (i : Int) := by omega
            go_region_held3 (fun w' => w'.cell? ⟨g4, 0, none⟩ = some (.string p.id)) (first | exact b.c0) (first
              | (go_at_call 69
                 refine (hasID_any (xs.take i) (some ⟨g, o, none⟩) i c p.id _ HT.out (by omega) (HX5.out.take i)).mono ?_
                 rintro e w6 ⟨rfl, c6⟩
                 rw [HB.out]
                 replace b := b.keep0 c6
                 have HX6 := Lib.hid (HX5.out.keep0 c6)
                 have hc6 := hc5.then c6)
              | fail)
            go_wp2_with fail
            go_ret
            exact ⟨ret_eq (by rw [hR.out]; rfl), hc6⟩
          | false =>
            have hR : Hid (R = allFrom xs (n - (i + 1)) (i + 1)) := by show _ = _; rw [hQ3.out, if_neg (by simp)]
            clear hQ3
            go_wp2_with (first
              | (go_at_call 15
                 refine (Check_any p _ HFP.out).mono ?_
                 rintro e w5 ⟨rfl, c5⟩
                 rw [HE.out]
                 replace b := b.keep0 c5
                 have HX5 := Lib.hid (HX2.out.keep0 c5)
                 have hc5 := hc2'.then c5)
              | fail)
            obtain ⟨g4, HG4⟩ := name_it wr.heap.size
            rw [HG4.out] at b ⊢
            have c8 : Chg [] w5 w5.drew := (Chg.refl _ _).drew
            replace b := b.keep0 c8
            replace HX5 := Lib.hid (HX5.out.keep0 c8)
            replace hc5 := hc5.then c8
            clear c8 y0 y1 y2 y3 y4 y5 y6 y7 y8 y9 y10 y11 y12 y13
            have e5 : (0 : Int) ≤ (i : Int) := by omega
            go_region_held3 (fun w' => w'.cell? ⟨g4, 0, none⟩ = some (.string p.id)) (first | exact b.c0) (first
              | (go_at_call 69
                 refine (hasID_any (xs.take i) (some ⟨g, o, none⟩) i c p.id _ HT.out (by omega) (HX5.out.take i)).mono ?_
                 rintro e w6 ⟨rfl, c6⟩
                 rw [HB.out]
                 replace b := b.keep0 c6
                 have HX6 := Lib.hid (HX5.out.keep0 c6)
                 have hc6 := hc5.then c6)
              | fail)
            go_wp2_with fail
            go_roundw
            case rel => exact ⟨i + 1, by omega, by go_num, hR.out, HX6.out, hc6⟩
            case measure => simp [intOf]; omega
        · have dE : (E != 0) = true := by simpa using hE
          have hR : Hid (R = E) := by show _ = _; rw [hQ2.out, if_pos hE]
          clear hE hQ2
          go_wp2_with (first
            | (go_at_call 15
               refine (Check_any p _ HFP.out).mono ?_
               rintro e w5 ⟨rfl, c5⟩
               rw [HE.out]
               replace b := b.keep0 c5
               have HX5 := Lib.hid (HX2.out.keep0 c5)
               have hc5 := hc2'.then c5)
            | fail)
          go_ret
          exact ⟨ret_eq (by rw [hR.out]; rfl), hc5⟩
      · have hin : i = n := by omega
        subst hin
        have hR : Hid (R = 0) := by show _ = _; rw [HQ.out, Nat.sub_self]; rfl
        clear HQ
        go_wp2_with fail
        go_ret
        exact ⟨ret_eq (by rw [hR.out]; rfl), hch⟩
end Go.Proofs.YtogciehmdlfkfaaGreatDoor

/- Part DX13. -/

namespace Go.Proofs.YtogciehmdlfkfaaGreatDoor
open Go.RowKit Nd

theorem lnE_mono : ∀ a b : List UInt8, (lnE a).length ≤ (lnE (a ++ b)).length
  | [], b => by simp [lnE]
  | x :: l, b => by
    have ih := lnE_mono l b
    rw [List.cons_append]
    by_cases h : x = 10
    · rw [lnE, if_pos h, lnE, if_pos h, List.length_cons, List.length_cons]; omega
    · rw [lnE, if_neg h, lnE, if_neg h]
      cases h1 : lnE l with
      | nil =>
        cases h2 : lnE (l ++ b) with
        | nil => simp
        | cons y u => simp
      | cons z v =>
        cases h2 : lnE (l ++ b) with
        | nil => rw [h1, h2] at ih; simp at ih
        | cons y u => rw [h1, h2] at ih; simp at ih ⊢; omega
theorem long_mono {a : List UInt8} (b : List UInt8) (h : longB a = true) : longB (a ++ b) = true := by
  unfold longB at h ⊢
  rw [Bool.or_eq_true, decide_eq_true_iff, decide_eq_true_iff] at h ⊢
  rcases h with h | h
  · left; rw [List.length_append]; omega
  · right; have := lnE_mono a b; omega
theorem docsL_snoc (xs : List Pf) (i : Nat) (h : i < xs.length) : docsL (xs.take (i + 1)) = docsL (xs.take i) ++ docL (xs.getD i pf0) := by
  rw [take_snocPf xs i h]; simp [docsL]
theorem docsL_split (xs : List Pf) (i : Nat) : docsL xs = docsL (xs.take i) ++ docsL (xs.drop i) := by
  unfold docsL
  rw [← List.flatten_append, ← List.map_append, List.take_append_drop]
theorem docC_size {p : Pf} (hp : DocP p) : (docC p).size ≤ 800000 := by
  have K2 : ∀ a b : ByteArray, small a → small b → (lineB [a, b]).size ≤ 100000 := fun a b ha hb => lineB_size _ (by simp) (by intro x hx; simp at hx; rcases hx with rfl | rfl <;> assumption)
  have z1 := K2 kPro p.id (show _ ≤ _ by decide) hp.id
  have z2 := K2 kEst (itB p.es) (show _ ≤ _ by decide) (itB_small _ hp.es.1 hp.es.2)
  have z3 := K2 kCre (itB p.cr) (show _ ≤ _ by decide) (itB_small _ hp.cr.1 hp.cr.2)
  have z4 := lineB_size [kAmo, p.cd, fmB (ratOf p.am)] (by simp) (by intro x hx; simp at hx; rcases hx with rfl | rfl | rfl; exact (show _ ≤ _ by decide); exact hp.cd; exact hp.am)
  have z5 := K2 kInc (itB p.inc) (show _ ≤ _ by decide) (itB_small _ hp.inc.1 hp.inc.2)
  have z6 := K2 kRan (itB p.rk) (show _ ≤ _ by decide) (itB_small _ hp.rk.1 hp.rk.2)
  have z7 := lineB_size [kInt, fmB (ratOf p.rt), kFro, itB p.rf] (by simp) (by intro x hx; simp at hx; rcases hx with rfl | rfl | rfl | rfl; exact (show _ ≤ _ by decide); exact hp.rt; exact (show _ ≤ _ by decide); exact itB_small _ hp.rf.1 hp.rf.2)
  have zA : (docA p).size ≤ 600000 := by unfold docA; simp only [ByteArray.size_append]; omega
  have zB : (docB p).size ≤ 700000 := by
    unfold docB
    split
    · rw [ByteArray.size_append]; omega
    · omega
  unfold docC
  split
  · rename_i h
    have z8 := K2 kSec (itB p.sec) (show _ ≤ _ by decide) (itB_small _ (hp.sec h).1 (hp.sec h).2)
    rw [ByteArray.size_append]; omega
  · omega
/-- What Format answers. -/
structure FmtPo (w : World) (xs : List Pf) (e : Ending) (w' : World) : Prop where
  out : e = .returned (.tuple #[.string ⟨(fmtT xs).toArray⟩, .int .i64 (fmtE xs)])
  chg : Chg [] w w'
set_option maxRecDepth 20000 in
set_option maxHeartbeats 8000000 in
theorem pFormat_any (xs : List Pf) (A : Option Addr) (n c : Nat) (w : World) (hgl : Gl w) (hn : xs.length = n) (hn2 : n ≤ 1000000) (hc : n ≤ c) (hc2 : c ≤ 9223372036854775807) (hx : SPf w A xs) (hd : Docs xs) :
    Calls Tryz.prog 20 #[.slice A n c] w (FmtPo w xs) := by
  obtain ⟨E, HE⟩ := name_it (allE xs)
  have HN := Lib.hid hn
  have HD := Lib.hid hd
  have HGL := Lib.hid hgl
  have HX := Lib.hid hx
  clear hn hd hgl hx
  by_cases hE : E = 0
  · subst hE
    have HDP := Lib.hid (HD.out.doc HE.out)
    have HFE : Hid (fmtE xs = if longB (docsL xs) then 2 else 0) := by show _ = _; unfold fmtE; rw [HE.out, if_neg (by simp)]
    go_enter Tryz.func20, Tryz.ntmps20
    go_wp2_with (first
      | (go_at_call 45
         refine (checkAll_any xs A n c _ HN.out hn2 hc hc2 HX.out HD.out.fit).mono ?_
         rintro e w2 ⟨rfl, c2⟩
         rw [HE.out]
         have HX2 := Lib.hid (HX.out.keep0 c2)
         have HG2 := Lib.hid (HGL.out.keep0 c2))
      | fail)
    go_loopw [5, 15] (fun tv iv wr => ∃ (i : Nat) (T : ByteArray), i ≤ n ∧ iv = .int .i64 i ∧ tv = .string T ∧ T.data.toList = docsL (xs.take i) ∧ longB (docsL (xs.take i)) = false ∧ SPf wr A xs ∧ Gl wr ∧ Chg [] w wr) (fun _ iv _ => n - (intOf iv).toNat)
    case atStart => exact ⟨0, ⟨#[]⟩, by omega, rfl, rfl, by simp [docsL], by simp [docsL]; decide, HX2.out, HG2.out, c2⟩
    case round =>
      obtain ⟨i, T, hi, rfl, rfl, hT, hlg, hxr, hgr, hch⟩ := hrel
      have HT := Lib.hid hT
      have HLG := Lib.hid hlg
      have HGR := Lib.hid hgr
      have HXR := Lib.hid hxr
      have zT : T.size ≤ 8192 := by
        rw [← size_len, hT]
        unfold longB at hlg
        rw [Bool.or_eq_false_iff] at hlg
        have := of_decide_eq_false hlg.1
        omega
      clear hT hlg hgr
      by_cases hlt : i < n
      · obtain ⟨p, HP⟩ := name_it (xs.getD i pf0)
        have hmem : p ∈ xs := by rw [← HP.out]; exact memPf (by rw [HN.out]; exact hlt)
        have HFP := Lib.hid (HD.out.fit p hmem)
        have HDC := Lib.hid (HDP.out p hmem)
        have hTL : Hid (docsL (xs.take (i + 1)) = T.data.toList ++ docL p) := by show _ = _; rw [docsL_snoc xs i (by rw [HN.out]; exact hlt), HP.out, ← HT.out]
        obtain ⟨g, o, rfl, l1, k1⟩ := hxr (by rw [HN.out]; omega)
        have hcc := k1 i (by rw [HN.out]; omega)
        rw [HP.out] at hcc
        obtain ⟨y0, y1, y2, y3, y4, y5, y6, y7, y8, y9, y10, y11, y12, y13, _⟩ := hcc
        have b := BlkPf.alloc wr (.string p.id) (.int .i64 p.es) (.int .i64 p.cr) (.string p.cd) (.bool p.am.neg) (.string p.am.num) (.string p.am.den) (.int .i64 p.inc) (.int .i64 p.rk) (.bool p.rt.neg) (.string p.rt.num) (.string p.rt.den) (.int .i64 p.rf) (.int .i64 p.sec) 27
        have c1 : Chg [] wr (wr.alloc (.cells #[.string p.id, .int .i64 p.es, .int .i64 p.cr, .string p.cd, .bool p.am.neg, .string p.am.num, .string p.am.den, .int .i64 p.inc, .int .i64 p.rk, .bool p.rt.neg, .string p.rt.num, .string p.rt.den, .int .i64 p.rf, .int .i64 p.sec] 27)) := (Chg.refl _ _).alloc _
        have HXA := Lib.hid (HXR.out.keep0 c1)
        have HGA := Lib.hid (HGR.out.keep0 c1)
        have hca := hch.then c1
        clear k1 c1 hmem HXR
        have k0 := b.c0
        have k1 := b.c1
        have k2 := b.c2
        have k3 := b.c3
        have k4 := b.c4
        have k5 := b.c5
        have k6 := b.c6
        have k7 := b.c7
        have k8 := b.c8
        have k9 := b.c9
        have k10 := b.c10
        have k11 := b.c11
        have k12 := b.c12
        have k13 := b.c13
        have kl := b.lt
        obtain ⟨D, HDD⟩ := name_it (docC p)
        have zD : D.size ≤ 800000 := by rw [← HDD.out]; exact docC_size HDC.out
        obtain ⟨T2, HT2⟩ := name_it (T ++ D)
        have zT2 : T2.size ≤ 810000 := by rw [← HT2.out, ByteArray.size_append]; omega
        have hT2 : Hid (T2.data.toList = docsL (xs.take (i + 1))) := by show _ = _; rw [hTL.out, ← HT2.out, app_list, ← HDD.out, docC_data]
        obtain ⟨B, HB⟩ := name_it (longB T2.data.toList)
        cases B with
        | true =>
          have hFE : Hid (fmtE xs = 2) := by
            show _ = _
            rw [HFE.out, if_pos]
            rw [docsL_split xs (i + 1), ← hT2.out]
            exact long_mono _ HB.out
          have hFT : Hid (fmtT xs = []) := by show _ = _; unfold fmtT; rw [hFE.out, if_pos (by decide)]
          go_wp2_with (first
            | (go_at_call 46; refine (isLongNumber_any _ _ (by first | exact HFP.out.a | exact HFP.out.r)).mono ?_; rintro e w5 ⟨rfl, c5⟩; replace b := b.keep0 c5; replace HXA := Lib.hid (HXA.out.keep0 c5); replace HGA := Lib.hid (HGA.out.keep0 c5); replace hca := hca.then c5; clear c5; have k0 := b.c0; have k1 := b.c1; have k2 := b.c2; have k3 := b.c3; have k4 := b.c4; have k5 := b.c5; have k6 := b.c6; have k7 := b.c7; have k8 := b.c8; have k9 := b.c9; have k10 := b.c10; have k11 := b.c11; have k12 := b.c12; have k13 := b.c13; have kl := b.lt)
            | (go_at_call 47; refine (document_any p _ HDC.out HGA.out).mono ?_; rintro e w5 ⟨rfl, c5⟩; rw [HDD.out]; replace b := b.keep0 c5; replace HXA := Lib.hid (HXA.out.keep0 c5); replace HGA := Lib.hid (HGA.out.keep0 c5); replace hca := hca.then c5; clear c5; have k0 := b.c0; have k1 := b.c1; have k2 := b.c2; have k3 := b.c3; have k4 := b.c4; have k5 := b.c5; have k6 := b.c6; have k7 := b.c7; have k8 := b.c8; have k9 := b.c9; have k10 := b.c10; have k11 := b.c11; have k12 := b.c12; have k13 := b.c13; have kl := b.lt)
            | (go_at_call 37; rw [HT2.out]; refine (isLong_any T2 _ (by omega)).mono ?_; rintro e w5 ⟨rfl, c5⟩; rw [HB.out]; replace b := b.keep0 c5; replace HXA := Lib.hid (HXA.out.keep0 c5); replace HGA := Lib.hid (HGA.out.keep0 c5); replace hca := hca.then c5; clear c5; have k0 := b.c0; have k1 := b.c1; have k2 := b.c2; have k3 := b.c3; have k4 := b.c4; have k5 := b.c5; have k6 := b.c6; have k7 := b.c7; have k8 := b.c8; have k9 := b.c9; have k10 := b.c10; have k11 := b.c11; have k12 := b.c12; have k13 := b.c13; have kl := b.lt)
            | fail)
          go_ret2
          exact ⟨ret_eq (by rw [hFE.out, hFT.out]; rfl), hca⟩
        | false =>
          go_wp2_with (first
            | (go_at_call 46; refine (isLongNumber_any _ _ (by first | exact HFP.out.a | exact HFP.out.r)).mono ?_; rintro e w5 ⟨rfl, c5⟩; replace b := b.keep0 c5; replace HXA := Lib.hid (HXA.out.keep0 c5); replace HGA := Lib.hid (HGA.out.keep0 c5); replace hca := hca.then c5; clear c5; have k0 := b.c0; have k1 := b.c1; have k2 := b.c2; have k3 := b.c3; have k4 := b.c4; have k5 := b.c5; have k6 := b.c6; have k7 := b.c7; have k8 := b.c8; have k9 := b.c9; have k10 := b.c10; have k11 := b.c11; have k12 := b.c12; have k13 := b.c13; have kl := b.lt)
            | (go_at_call 47; refine (document_any p _ HDC.out HGA.out).mono ?_; rintro e w5 ⟨rfl, c5⟩; rw [HDD.out]; replace b := b.keep0 c5; replace HXA := Lib.hid (HXA.out.keep0 c5); replace HGA := Lib.hid (HGA.out.keep0 c5); replace hca := hca.then c5; clear c5; have k0 := b.c0; have k1 := b.c1; have k2 := b.c2; have k3 := b.c3; have k4 := b.c4; have k5 := b.c5; have k6 := b.c6; have k7 := b.c7; have k8 := b.c8; have k9 := b.c9; have k10 := b.c10; have k11 := b.c11; have k12 := b.c12; have k13 := b.c13; have kl := b.lt)
            | (go_at_call 37; rw [HT2.out]; refine (isLong_any T2 _ (by omega)).mono ?_; rintro e w5 ⟨rfl, c5⟩; rw [HB.out]; replace b := b.keep0 c5; replace HXA := Lib.hid (HXA.out.keep0 c5); replace HGA := Lib.hid (HGA.out.keep0 c5); replace hca := hca.then c5; clear c5; have k0 := b.c0; have k1 := b.c1; have k2 := b.c2; have k3 := b.c3; have k4 := b.c4; have k5 := b.c5; have k6 := b.c6; have k7 := b.c7; have k8 := b.c8; have k9 := b.c9; have k10 := b.c10; have k11 := b.c11; have k12 := b.c12; have k13 := b.c13; have kl := b.lt)
            | fail)
          go_roundw
          case rel => exact ⟨i + 1, T2, by omega, by go_num, by first | rfl | rw [HT2.out], hT2.out, by rw [← hT2.out]; exact HB.out, HXA.out, HGA.out, hca⟩
          case measure => simp [intOf]; omega
      · have hin : i = n := by omega
        subst hin
        have htk : Hid (docsL (xs.take i) = docsL xs) := by show _ = _; rw [← HN.out, List.take_length]
        have hFE : Hid (fmtE xs = 0) := by show _ = _; rw [HFE.out, ← htk.out, HLG.out, if_neg (by simp)]
        have hFT : Hid (⟨(fmtT xs).toArray⟩ = T) := by
          show _ = _
          unfold fmtT
          rw [hFE.out, if_neg (by simp), ← htk.out, ← HT.out, ba_eta]
        go_wp2_with fail
        go_ret2
        exact ⟨ret_eq (by rw [hFE.out, hFT.out]; rfl), hch⟩
  · have hFE : Hid (fmtE xs = E) := by show _ = _; unfold fmtE; rw [HE.out, if_pos hE]
    have hFT : Hid (fmtT xs = []) := by show _ = _; unfold fmtT; rw [hFE.out, if_pos hE]
    have dE : (E != 0) = true := by simpa using hE
    clear hE
    go_enter Tryz.func20, Tryz.ntmps20
    go_wp2_with (first
      | (go_at_call 45
         refine (checkAll_any xs A n c _ HN.out hn2 hc hc2 HX.out HD.out.fit).mono ?_
         rintro e w2 ⟨rfl, c2⟩
         rw [HE.out])
      | fail)
    go_ret2
    exact ⟨ret_eq (by rw [hFE.out, hFT.out]; rfl), c2⟩
end Go.Proofs.YtogciehmdlfkfaaGreatDoor
