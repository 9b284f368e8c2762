/-
  Laws of layer 9: how many documents.
-/
import Derived.Test.YtogciehmdlfkfaaGreatDoorDL4
import Derived.Test.YtogciehmdlfkfaaGreatDoorDR6
import Derived.Test.YtogciehmdlfkfaaGreatDoorDM5
namespace Go.Proofs.YtogciehmdlfkfaaGreatDoor
open Go.RowKit Nd

set_option maxRecDepth 20000 in
set_option maxHeartbeats 8000000 in
theorem lpmany_any (a : Int) (w : World) (hgl : Gl w) (ha : 0 ≤ a ∧ a ≤ 255) :
    Calls Tryz.prog 10 #[.int .u8 a] w fun e w' => e = .returned (.bool true) ∧ Chg [] w w' := by
  have HGL := Lib.hid hgl
  obtain ⟨M, HM⟩ : ∃ M : Nat, Hid (a % 20 = (M : Int)) := ⟨(a % 20).toNat, Lib.hid (by omega)⟩
  obtain ⟨N, HNN⟩ : ∃ N : Nat, Hid (N = 50 + M) := ⟨50 + M, Lib.hid rfl⟩
  have M1 : M < 20 := by have := HM.out; omega
  have N1 : N ≤ 69 := by have := HNN.out; omega
  have f1 : a % 20 = (M : Int) := HM.out
  have f2 : a.tmod 20 = (M : Int) := by rw [Int.tmod_eq_emod_of_nonneg ha.1]; exact HM.out
  clear hgl
  go_enter Tryz.func10, Tryz.ntmps10
  go_wp2_with fail
  go_loopw [3, 4, 5] (fun dv tv iv wr => ∃ (i : Nat) (T : ByteArray), i ≤ N ∧ iv = .int .i64 i ∧ tv = .string T ∧ T.data.toList = docsL (docsN i) ∧ T.size ≤ i * 100 ∧ OwnPf wr dv (docsN i) ∧ Gl wr ∧ Chg [] w wr ∧ (∀ x, x ∈ dv.ownBlock.toList → w.heap.size ≤ x)) (fun _ _ iv _ => N - (intOf iv).toNat)
  case atStart => exact ⟨0, ⟨#[]⟩, by omega, rfl, rfl, by simp [docsL, docsN], by decide, OwnPf.nil _, HGL.out, Chg.refl _ _, by simp [Value.ownBlock]⟩
  case round =>
    obtain ⟨i, T, hi, rfl, rfl, hT, zT, hown, hgr, hch, hbk⟩ := hrel
    have HO := Lib.hid hown
    have HT := Lib.hid hT
    have HBK := Lib.hid hbk
    have HGR := Lib.hid hgr
    clear hown hT hbk hgr
    by_cases hlt : i < N
    · have d1 : decide ((i : Int) < 50 + (M : Int)) = true := decide_eq_true (by have := HNN.out; omega)
      have hrow : Row 5 .u8 (wr.alloc (Obj.cells #[Value.int IntKind.u8 (97 + (i : Int) / 26), Value.int IntKind.u8 (97 + (i : Int) % 26)] 5)) wr.heap.size 2 [97 + i / 26, 97 + i % 26] :=
        Row.of_alloc wr _ [97 + i / 26, 97 + i % 26] (by simp [vals]) (by simp)
      have hcv : (convert 51 9 (.slice (some ⟨wr.heap.size, 0, none⟩) 2 2)).run Tryz.prog (wr.alloc (Obj.cells #[Value.int IntKind.u8 (97 + (i : Int) / 26), Value.int IntKind.u8 (97 + (i : Int) % 26)] 5)) = .ok (.string (strOf [97 + i / 26, 97 + i % 26])) (wr.alloc (Obj.cells #[Value.int IntKind.u8 (97 + (i : Int) / 26), Value.int IntKind.u8 (97 + (i : Int) % 26)] 5)) := run_str hrow
      have zS : (strOf [97 + i / 26, 97 + i % 26]).size = 2 := strOf_size _
      clear hrow
      go_wp2_with fail
      clear hcv
      obtain ⟨wb, HWB⟩ := name_it (wr.alloc (Obj.cells #[Value.int IntKind.u8 (97 + (i : Int) / 26), Value.int IntKind.u8 (97 + (i : Int) % 26)] 5))
      have hzb : wb.heap.size = wr.heap.size + 1 := by rw [← HWB.out]; simp
      have cb : Chg [] wr wb := by rw [← HWB.out]; exact (Chg.refl _ _).alloc _
      rw [HWB.out]
      obtain ⟨I, HI⟩ := name_it (idN i)
      have HII : Hid ((⟨#[110]⟩ : ByteArray) ++ strOf [97 + i / 26, 97 + i % 26] = I) := HI
      have hDI : Hid (docN i = docI I) := by show _ = _; unfold docN; rw [HI.out]
      rw [HII.out]
      have fN := docN_facts i (by omega)
      have HDC := Lib.hid (docN_docs (i := i) (by omega))
      rw [hDI.out] at fN HDC
      have hFE : Hid (fmtE [docI I] = 0) := fN.1
      obtain ⟨F, HF⟩ := name_it (⟨(fmtT [docI I]).toArray⟩ : ByteArray)
      have hFD : Hid (F.data.toList = docL (docI I)) := by
        show _ = _
        rw [← HF.out]; unfold fmtT; rw [hFE.out, if_neg (by simp)]; simp [docsL]
      have zF : F.size ≤ 100 := by rw [← size_len, hFD.out]; exact fN.2.1
      clear fN HII HI zS
      have b := BlkPf.alloc wb (.string I) (.int .i64 0) (.int .i64 0) (.string ⟨#[69, 85, 82]⟩) (.bool false) (.string ⟨#[]⟩) (.string ⟨#[]⟩) (.int .i64 0) (.int .i64 0) (.bool false) (.string ⟨#[]⟩) (.string ⟨#[]⟩) (.int .i64 0) (.int .i64 (-1)) 27
      have cc : Chg [] wb (wb.alloc (.cells #[.string I, .int .i64 0, .int .i64 0, .string ⟨#[69, 85, 82]⟩, .bool false, .string ⟨#[]⟩, .string ⟨#[]⟩, .int .i64 0, .int .i64 0, .bool false, .string ⟨#[]⟩, .string ⟨#[]⟩, .int .i64 0, .int .i64 (-1)] 27)) := (Chg.refl _ _).alloc _
      rw [hzb] at b
      have hzc : (wb.alloc (.cells #[.string I, .int .i64 0, .int .i64 0, .string ⟨#[69, 85, 82]⟩, .bool false, .string ⟨#[]⟩, .string ⟨#[]⟩, .int .i64 0, .int .i64 0, .bool false, .string ⟨#[]⟩, .string ⟨#[]⟩, .int .i64 0, .int .i64 (-1)] 27)).heap.size = wr.heap.size + 1 + 1 := by rw [World.size_alloc, hzb]
      obtain ⟨wc, HWC⟩ := name_it (wb.alloc (.cells #[.string I, .int .i64 0, .int .i64 0, .string ⟨#[69, 85, 82]⟩, .bool false, .string ⟨#[]⟩, .string ⟨#[]⟩, .int .i64 0, .int .i64 0, .bool false, .string ⟨#[]⟩, .string ⟨#[]⟩, .int .i64 0, .int .i64 (-1)] 27))
      rw [HWC.out] at b cc hzc ⊢
      have hsn : SPf (wc.alloc (.cells #[.string I, .int .i64 0, .int .i64 0, .string ⟨#[69, 85, 82]⟩, .bool false, .string ⟨#[]⟩, .string ⟨#[]⟩, .int .i64 0, .int .i64 0, .bool false, .string ⟨#[]⟩, .string ⟨#[]⟩, .int .i64 0, .int .i64 (-1)] 27)) (some ⟨wc.heap.size, 0, none⟩) [docI I] := sPf_new wc (docI I)
      rw [hzc] at hsn
      have cd : Chg [] wc (wc.alloc (.cells #[.string I, .int .i64 0, .int .i64 0, .string ⟨#[69, 85, 82]⟩, .bool false, .string ⟨#[]⟩, .string ⟨#[]⟩, .int .i64 0, .int .i64 0, .bool false, .string ⟨#[]⟩, .string ⟨#[]⟩, .int .i64 0, .int .i64 (-1)] 27)) := (Chg.refl _ _).alloc _
      have HC3 := (cb.then cc).then cd
      refine (pFormat_any [docI I] (some ⟨wr.heap.size + 1 + 1, 0, none⟩) 1 1 _ (HGR.out.keep0 HC3) rfl (by omega) (by omega) (by omega) hsn HDC.out).mono ?_
      rintro e w2 ⟨rfl, c2⟩
      rw [HF.out, hFE.out]
      have HO2 := Lib.hid ((HO.out.keep0 HC3).keep0 c2)
      have HG2 := Lib.hid ((HGR.out.keep0 HC3).keep0 c2)
      replace hch := (hch.then HC3).then c2
      replace b := (b.keep0 cd).keep0 c2
      clear cb cc cd c2 HC3 hsn hzc HWC HO HGR HDC hFE HF
      obtain ⟨g, HG⟩ := name_it (wr.heap.size + 1)
      rw [HG.out] at b ⊢
      clear HG hzb HWB
      obtain ⟨T2, HT2⟩ := name_it (T ++ F)
      have zT2 : T2.size ≤ (i + 1) * 100 := by rw [← HT2.out, ByteArray.size_append]; omega
      have hT2 : Hid (T2.data.toList = docsL (docsN (i + 1))) := by
        show _ = _
        rw [← HT2.out, app_list, HT.out, hFD.out, docsN_succ, docsL_app, hDI.out]; simp [docsL]
      have zT : T.size ≤ 7000 := by omega
      have k0 := b.c0
      have k1 := b.c1
      have k2 := b.c2
      have k3 := b.c3
      have k4 := b.c4
      have k5 := b.c5
      have k6 := b.c6
      have k7 := b.c7
      have k8 := b.c8
      have k9 := b.c9
      have k10 := b.c10
      have k11 := b.c11
      have k12 := b.c12
      have k13 := b.c13
      have kl := b.lt
      have c6 : Chg [] w2 (w2.alloc (.cells #[.string I, .int .i64 0, .int .i64 0, .string ⟨#[69, 85, 82]⟩, .bool false, .string ⟨#[]⟩, .string ⟨#[]⟩, .int .i64 0, .int .i64 0, .bool false, .string ⟨#[]⟩, .string ⟨#[]⟩, .int .i64 0, .int .i64 (-1)] 27)) := (Chg.refl _ _).alloc _
      have hO := HO2.out.keep0 c6
      go_wp2_with (at_builtin; refine wpList_appendPf _ rfl (.tmp 45) (.tmp 47) rfl u3 (docsN i) rfl hO _ 1 (docI I) rfl (sPf_new _ (docI I)) (by rw [docsN_len]; omega) ?_)
      intro v5 w5 own5 cv5 hv5
      have hch5 : Chg [] w w5 := (hch.then c6).trans cv5 (fun x hx => .inr (HBK.out x hx))
      have HB5 : Hid (∀ x, x ∈ v5.ownBlock.toList → w.heap.size ≤ x) := Lib.hid fun x hx => by
        rcases hv5 with h5 | h5
        · rw [h5] at hx; exact HBK.out x hx
        · rw [h5] at hx; simp at hx; have := hch.size; omega
      rw [← hDI.out, ← docsN_succ] at own5
      have HO5 := Lib.hid own5
      clear own5 cv5 hv5 k0 k1 k2 k3 k4 k5 k6 k7 k8 k9 k10 k11 k12 k13 kl b c6 hO
      go_wp2_with fail
      go_roundw
      case rel => exact ⟨i + 1, T2, by omega, by go_num, by rw [HT2.out], hT2.out, zT2, HO5.out, HGL.out.keep0 hch5, hch5, HB5.out⟩
      case measure => simp [intOf]; omega
    · obtain rfl : i = N := by omega
      have d1 : decide ((i : Int) < 50 + (M : Int)) = false := decide_eq_false (by have := HNN.out; omega)
      obtain ⟨A, cap, rfl, hc1, hc2, hx⟩ := HO.out.rds
      have HX := Lib.hid hx
      have zT : T.size ≤ 7000 := by omega
      clear HO hx HBK
      rw [docsN_len] at hc1 ⊢
      obtain ⟨F, HF⟩ := name_it (⟨(fmtT (docsN i)).toArray⟩ : ByteArray)
      by_cases h64 : 64 < i
      · have d2 : decide (64 < (i : Int)) = true := by simp; omega
        have hE : Hid (fmtE (docsN i) = 2) := docsN_many h64
        have hP : Hid (parseT T.data.toList = ([], 385, 2)) := by show _ = _; rw [HT.out]; exact docsN_over h64 N1
        clear HT
        go_wp2_with fail
        refine (pFormat_any (docsN i) A i cap _ HGR.out (docsN_len i) (by omega) hc1 hc2 HX.out (docsN_docs N1)).mono ?_
        rintro e w2 ⟨rfl, c2⟩
        rw [HF.out, hE.out]
        have HG2 := Lib.hid (HGR.out.keep0 c2)
        go_wp2_with fail
        have hpp := pParse_any T w2 HG2.out (by omega)
        rw [hP.out] at hpp
        refine hpp.mono ?_
        rintro e w3 ⟨⟨B, cb, rfl, _, _, _, c3⟩⟩
        have HG3 := Lib.hid (HG2.out.keep0 c3)
        clear hpp
        go_wp2_with (first
          | (go_at_call 11
             refine (awake9_any _ HG3.out).mono ?_
             rintro e w4 ⟨rfl, c4⟩)
          | fail)
        go_ret
        exact ⟨rfl, ((hch.then c2).then c3).then c4⟩
      · have d2 : decide (64 < (i : Int)) = false := by simp; omega
        have hE : Hid (fmtE (docsN i) = 0) := docsN_fmt (by omega)
        have hP : Hid (parseT T.data.toList = (docsN i, 0, 0)) := by show _ = _; rw [HT.out]; exact docsN_parse (by omega)
        clear HT
        go_wp2_with fail
        refine (pFormat_any (docsN i) A i cap _ HGR.out (docsN_len i) (by omega) hc1 hc2 HX.out (docsN_docs N1)).mono ?_
        rintro e w2 ⟨rfl, c2⟩
        rw [HF.out, hE.out]
        have HG2 := Lib.hid (HGR.out.keep0 c2)
        have HX2 := Lib.hid (HX.out.keep0 c2)
        go_wp2_with fail
        have hpp := pParse_any T w2 HG2.out (by omega)
        rw [hP.out] at hpp
        refine hpp.mono ?_
        rintro e w3 ⟨⟨B, cb, rfl, _, _, hy, c3⟩⟩
        have hln : (docsN i, (0 : Int), (0 : Int)).1.length = i := docsN_len i
        rw [hln]
        have HY3 : Hid (SPf w3 B (docsN i)) := hy
        have HG3 := Lib.hid (HG2.out.keep0 c3)
        have HX3 := Lib.hid (HX2.out.keep0 c3)
        clear hpp hy
        go_wp2_with (first
          | (go_at_call 11
             refine (awake9_any _ HG3.out).mono ?_
             rintro e w4 ⟨rfl, c4⟩
             have HX4 := Lib.hid (HX3.out.keep0 c4)
             have HY4 := Lib.hid (HY3.out.keep0 c4))
          | (go_at_call 19
             refine (rSame_same (docsN i) A B i cap cb _ (docsN_len i) (by omega) HX4.out HY4.out).mono ?_
             rintro e w5 ⟨rfl, c5⟩)
          | fail)
        go_ret
        exact ⟨rfl, (((hch.then c2).then c3).then c4).then c5⟩
end Go.Proofs.YtogciehmdlfkfaaGreatDoor
