/-
  The reference: Parse.
-/
import Derived.Test.YtogciehmdlfkfaaGreatDoorV17
import Derived.Test.YtogciehmdlfkfaaGreatDoorV14
namespace Go.Proofs.YtogciehmdlfkfaaGreatDoor
open Go.RowKit Nd
theorem neg_nil : negP [] = false ∧ bodyP [] = [] := by decide
theorem cut_size1 {s t : ByteArray} (h : Hid (t.data.toList = bodyP s.data.toList)) : t.size ≤ s.size := by
  rw [← size_len, ← size_len, h.out]; exact bodyP_len _
set_option maxHeartbeats 400000 in
theorem rcut_ex (s : ByteArray) (c : Int) (b : UInt8) (hc : Hid ((b.toNat : Int) = c)) (w : World) (hs : s.size ≤ 1099511627776) :
    Calls Tryz.prog 120 #[.string s, .int .u8 c] w fun e w' => ∃ (x y : ByteArray) (f : Bool), e = .returned (.tuple #[.string x, .string y, .bool f]) ∧ Chg [] w w' := by
  rcases first_cases s.data.toList b with hf | ⟨o, ho, hof⟩
  · refine (rcut_none s c b hc w hs (Lib.hid hf)).mono ?_
    rintro e w1 ⟨rfl, c1⟩
    exact ⟨_, _, _, rfl, c1⟩
  · refine (rcut_some s c b hc o w hs (Lib.hid ho) (Lib.hid hof)).mono ?_
    rintro e w1 ⟨rfl, c1⟩
    exact ⟨_, _, _, rfl, c1⟩

set_option maxRecDepth 20000 in
set_option maxHeartbeats 8000000 in
theorem rParse_any (s : ByteArray) (w : World) (hs : s.size ≤ 2000) :
    Calls Tryz.prog 96 #[.string s] w fun e w' => ∃ x : Q3, e = .returned (.tuple #[.agg #[.bool x.neg, .string x.num, .string x.den], .int .i64 (parseP s.data.toList).1]) ∧ Enc x (parseP s.data.toList).2 ∧ Chg [] w w' := by
  have b0 := Blk3.alloc w (.bool false) (.string ⟨#[]⟩) (.string ⟨#[]⟩) 25
  have hch : Chg [] w (w.alloc (.cells #[.bool false, .string ⟨#[]⟩, .string ⟨#[]⟩] 25)) := (Chg.refl _ _).alloc _
  obtain ⟨r, HR⟩ := name_it (parseP s.data.toList).1
  obtain ⟨qq, HQ⟩ := name_it (parseP s.data.toList).2
  rw [HR.out, HQ.out]
  obtain ⟨t, HT⟩ := name_it (⟨(bodyP s.data.toList).toArray⟩ : ByteArray)
  have htl : Hid (t.data.toList = bodyP s.data.toList) := by show _ = _; rw [← HT.out]
  have zt : t.size ≤ 2000 := Nat.le_trans (cut_size1 htl) hs
  obtain ⟨neg, HN⟩ := name_it (negP s.data.toList)
  have hpp : Hid (∀ (a : Int) (b : Rat), parseP s.data.toList = (a, b) → r = a ∧ qq = b) := by
    show ∀ _ _, _
    intro a b h
    rw [← HR.out, ← HQ.out, h]; exact ⟨rfl, rfl⟩
  have h3 : Hid ((s.size = 0 ∧ neg = false ∧ s = t) ∨ (∃ h : 0 < s.size, ((s[0].toNat : Int) == 45) = true ∧ neg = true ∧ s.extract 1 s.size = t) ∨ (∃ h : 0 < s.size, ((s[0].toNat : Int) == 45) = false ∧ neg = false ∧ s = t)) := by
    show _ ∨ _
    have htl2 := htl.out
    have hn2 := HN.out
    have hsz := size_len s
    cases hl : s.data.toList with
    | nil =>
      rw [hl] at htl2 hn2 hsz
      refine .inl ⟨hsz.symm, hn2.symm, ?_⟩
      exact ba_eq (by rw [hl, htl2]; rfl)
    | cons c l =>
      have hp : 0 < s.size := by rw [← size_len, hl]; simp
      have hg := byte_get s 0 hp
      rw [hl] at hg
      have hc : c = s[0] := by simpa using hg
      rw [hl] at htl2 hn2
      by_cases h45 : c = 45
      · subst h45
        obtain ⟨g1, g2⟩ := neg_body l
        refine .inr (.inl ⟨hp, by rw [← hc]; rfl, by rw [← hn2, g1], ?_⟩)
        exact ba_eq (by rw [ext_drop, hl, htl2, g2]; rfl)
      · obtain ⟨g1, g2⟩ := pos_body c l h45
        refine .inr (.inr ⟨hp, ?_, by rw [← hn2, g1], ?_⟩)
        · rw [beq_eq_false_iff_ne, ← hc]
          intro he
          exact h45 (UInt8.toNat_inj.1 (by show c.toNat = 45; omega))
        · exact ba_eq (by rw [hl, htl2, g2])
  go_enter Tryz.func96, Tryz.ntmps96
  go_upto_region 1 with fail
  go_cut [4] (fun nv wx => nv = .bool neg ∧ Blk3 wx w.heap.size (.bool false) (.string ⟨#[]⟩) (.string ⟨#[]⟩) ∧ Chg [] w wx)
  case first =>
    rcases h3.out with ⟨h0, hn, -⟩ | ⟨h0, h1, hn, -⟩ | ⟨h0, h1, hn, -⟩
    · subst hn
      go_wp2_with fail
      go_meet
      exact ⟨rfl, b0, hch⟩
    · subst hn
      go_wp2_with fail
      go_meet
      exact ⟨rfl, b0, hch⟩
    · subst hn
      go_wp2_with fail
      go_meet
      exact ⟨rfl, b0, hch⟩
  case rest =>
    clear b0 hch
    obtain ⟨rfl, b0, hch⟩ := hcut
    go_upto_if 21 with fail
    go_cut [0] (fun sv wx => sv = .string t ∧ Blk3 wx w.heap.size (.bool false) (.string ⟨#[]⟩) (.string ⟨#[]⟩) ∧ Chg [] w wx)
    case first =>
      rcases h3.out with ⟨h0, hn, ht⟩ | ⟨h0, h1, hn, ht⟩ | ⟨h0, h1, hn, ht⟩
      · subst hn
        have HTT := Lib.hid ht
        clear ht
        go_wp2_with fail
        go_meet
        exact ⟨congrArg Value.string HTT.out, b0, hch⟩
      · subst hn
        have HTT := Lib.hid ht
        clear ht
        go_wp2_with fail
        go_meet
        exact ⟨congrArg Value.string HTT.out, b0, hch⟩
      · subst hn
        have HTT := Lib.hid ht
        clear ht
        go_wp2_with fail
        go_meet
        exact ⟨congrArg Value.string HTT.out, b0, hch⟩
    case rest =>
      clear b0 hch h3
      obtain ⟨rfl, b0, hch⟩ := hcut
      have c46 : Hid (((46 : UInt8).toNat : Int) = 46) := by show _ = _; decide
      have c47 : Hid (((47 : UInt8).toNat : Int) = 47) := by show _ = _; decide
      go_wp2_with fail
      rcases first_cases t.data.toList 46 with hf | ⟨o, ho, hof⟩
      · have HF := Lib.hid hf
        clear hf
        have C46 : Hid (cutAt (bodyP s.data.toList) 46 = none) := by
          show _ = _
          rw [← htl.out]; exact cutAt_free HF.out
        refine (rcut_none t 46 46 c46 _ (by omega) HF).mono ?_
        rintro e w1 ⟨rfl, c1⟩
        replace b0 := b0.keep c1 (by simp)
        replace hch := hch.then c1
        clear c1
        go_wp2_with fail
        rcases first_cases t.data.toList 47 with hf | ⟨o, ho, hof⟩
        · have HG := Lib.hid hf
          clear hf
          have C47 : Hid (cutAt (bodyP s.data.toList) 47 = none) := by
            show _ = _
            rw [← htl.out]; exact cutAt_free HG.out
          refine (rcut_none t 47 47 c47 _ (by omega) HG).mono ?_
          rintro e w1 ⟨rfl, c1⟩
          replace b0 := b0.keep c1 (by simp)
          replace hch := hch.then c1
          clear c1
          go_wp2_with fail
          have hpi : Hid (parseP s.data.toList = (quoE t.data.toList [49], quoQ neg t.data.toList [49])) := by
            show _ = _
            rw [pp_int C47.out C46.out, htl.out, HN.out]
          cases hc : canD t.data.toList
          · have HC := Lib.hid hc
            clear hc
            refine (digits_any t _ (by omega)).mono ?_
            rintro e _ ⟨rfl, rfl⟩
            rw [HC.out]
            have hrq : r = 3 ∧ qq = 0 := hpp.out _ _ (by rw [hpi.out]; have := quo_bad (p := t.data.toList) (q := [49]) neg (by rw [HC.out]; rfl); rw [this.1, this.2])
            have HE : Hid (Enc ⟨false, ⟨#[]⟩, ⟨#[]⟩⟩ qq) := Lib.hid (by rw [hrq.2]; exact Enc_zero)
            have HR1 : Hid (r = 3) := Lib.hid hrq.1
            clear hrq
            have b0c0 := b0.c0
            have b0c1 := b0.c1
            have b0c2 := b0.c2
            have b0f0 := b0.f0
            have b0f1 := b0.f1
            have b0f2 := b0.f2
            have b0l := b0.lt
            go_wp2_with fail
            have S := b0.store (.bool false) (.string ⟨#[]⟩) (.string ⟨#[]⟩)
            rw [HR1.out]
            exact bodyPost_ret (v := .tuple #[.agg #[.bool false, .string ⟨#[]⟩, .string ⟨#[]⟩], .int .i64 3]) (by simp [results, Tryz.results96, go_sem, S.c0, S.c1, S.c2]) rfl ⟨⟨false, ⟨#[]⟩, ⟨#[]⟩⟩, rfl, HE.out, hch.store3 (.inr (Nat.le_refl _)) _ _ _⟩
          · have HC := Lib.hid hc
            clear hc
            refine (digits_any t _ (by omega)).mono ?_
            rintro e _ ⟨rfl, rfl⟩
            rw [HC.out]
            go_wp2_with fail
            refine (value_any t _ (by omega) (canD_all HC.out)).mono ?_
            rintro e w1 ⟨v, rfl, L, hL, dL, nL, vL, lL, c1⟩
            replace b0 := b0.keep c1 (by simp)
            replace hch := hch.then c1
            clear c1
            have VL := Lib.hid vL
            clear vL
            go_wp2_with fail
            have hrow : Row 120 .u32 (w1.alloc (.cells #[.int .u32 1] 120)) w1.heap.size 1 [1] := Row.of_alloc w1 _ [1] (by simp [vals]) (by simp)
            replace b0 := b0.keep ((Chg.refl [] _).alloc (.cells #[.int .u32 1] 120)) (by simp)
            replace hch := hch.then ((Chg.refl [] _).alloc (.cells #[.int .u32 1] 120))
            replace hL := hL.keep ((Chg.refl [] _).alloc (.cells #[.int .u32 1] 120))
            have hrq : r = 0 ∧ qq = sq neg (dv t.data.toList) (dv [49]) := hpp.out _ _ (by rw [hpi.out]; have := quo_good (p := t.data.toList) (q := [49]) neg HC.out (by decide) (by rw [size_len]; omega) (by decide) (by decide); rw [this.1, this.2])
            have HR1 : Hid (r = 0) := Lib.hid hrq.1
            have HQ1 : Hid (qq = sq neg (dv t.data.toList) 1) := Lib.hid hrq.2
            clear hrq
            refine (reduced_sl neg w1.heap.size 1 [1] _ hL hrow dL dig_one nL noz_one (by omega) (by simp) VL.out rfl (by decide)).mono ?_
            rintro e w2 ⟨x, rfl, hx, c1⟩
            replace b0 := b0.keep c1 (by simp)
            replace hch := hch.then c1
            clear c1 hL hrow
            have HX : Hid (Enc x qq) := Lib.hid (by rw [HQ1.out]; exact hx)
            clear hx
            have b0c0 := b0.c0
            have b0c1 := b0.c1
            have b0c2 := b0.c2
            have b0f0 := b0.f0
            have b0f1 := b0.f1
            have b0f2 := b0.f2
            have b0l := b0.lt
            go_wp2_with fail
            have S := b0.store (.bool x.neg) (.string x.num) (.string x.den)
            rw [HR1.out]
            exact bodyPost_ret (v := .tuple #[.agg #[.bool x.neg, .string x.num, .string x.den], .int .i64 0]) (by simp [results, Tryz.results96, go_sem, S.c0, S.c1, S.c2]) rfl ⟨x, rfl, HX.out, hch.store3 (.inr (Nat.le_refl _)) _ _ _⟩
        · have HO := Lib.hid ho
          have HOF := Lib.hid hof
          clear ho hof
          have C47 : Hid (cutAt (bodyP s.data.toList) 47 = some (t.data.toList.take o, t.data.toList.drop (o + 1))) := by
            show _ = _
            rw [← htl.out]; exact cutAt_first HO.out HOF.out
          refine (rcut_some t 47 47 c47 o _ (by omega) HO HOF).mono ?_
          rintro e w1 ⟨rfl, c1⟩
          replace b0 := b0.keep c1 (by simp)
          replace hch := hch.then c1
          clear c1
          have za := ext_size t 0 o
          have zb := ext_size t (o + 1) t.size
          have ea : Hid ((t.extract 0 o).data.toList = t.data.toList.take o) := Lib.hid (ext_take t o)
          have eb : Hid ((t.extract (o + 1) t.size).data.toList = t.data.toList.drop (o + 1)) := Lib.hid (ext_drop t (o + 1))
          obtain ⟨A, HA⟩ := name_it (t.extract 0 o)
          obtain ⟨D, HD⟩ := name_it (t.extract (o + 1) t.size)
          rw [HA.out] at za ea ⊢
          rw [HD.out] at zb eb ⊢
          replace za : A.size ≤ 2000 := Nat.le_trans za zt
          replace zb : D.size ≤ 2000 := Nat.le_trans zb zt
          have hpi : Hid (parseP s.data.toList = (quoE A.data.toList D.data.toList, quoQ neg A.data.toList D.data.toList)) := by
            show _ = _
            rw [pp_slash C47.out, ea.out, eb.out, HN.out]
          clear C47 HO HOF ea eb HA HD
          go_wp2_with fail
          cases hc : canD A.data.toList
          · have HC := Lib.hid hc
            clear hc
            refine (digits_any A _ (by omega)).mono ?_
            rintro e _ ⟨rfl, rfl⟩
            rw [HC.out]
            have hrq : r = 3 ∧ qq = 0 := hpp.out _ _ (by rw [hpi.out]; have := quo_bad (p := A.data.toList) (q := D.data.toList) neg (by rw [HC.out]; rfl); rw [this.1, this.2])
            have HE : Hid (Enc ⟨false, ⟨#[]⟩, ⟨#[]⟩⟩ qq) := Lib.hid (by rw [hrq.2]; exact Enc_zero)
            have HR1 : Hid (r = 3) := Lib.hid hrq.1
            clear hrq
            have b0c0 := b0.c0
            have b0c1 := b0.c1
            have b0c2 := b0.c2
            have b0f0 := b0.f0
            have b0f1 := b0.f1
            have b0f2 := b0.f2
            have b0l := b0.lt
            go_wp2_with fail
            have S := b0.store (.bool false) (.string ⟨#[]⟩) (.string ⟨#[]⟩)
            rw [HR1.out]
            exact bodyPost_ret (v := .tuple #[.agg #[.bool false, .string ⟨#[]⟩, .string ⟨#[]⟩], .int .i64 3]) (by simp [results, Tryz.results96, go_sem, S.c0, S.c1, S.c2]) rfl ⟨⟨false, ⟨#[]⟩, ⟨#[]⟩⟩, rfl, HE.out, hch.store3 (.inr (Nat.le_refl _)) _ _ _⟩
          · have HC := Lib.hid hc
            clear hc
            refine (digits_any A _ (by omega)).mono ?_
            rintro e _ ⟨rfl, rfl⟩
            rw [HC.out]
            go_wp2_with fail
            cases hc : canD D.data.toList
            · have HC2 := Lib.hid hc
              clear hc
              refine (digits_any D _ (by omega)).mono ?_
              rintro e _ ⟨rfl, rfl⟩
              rw [HC2.out]
              have hrq : r = 3 ∧ qq = 0 := hpp.out _ _ (by rw [hpi.out]; have := quo_bad (p := A.data.toList) (q := D.data.toList) neg (by rw [HC.out, HC2.out]; rfl); rw [this.1, this.2])
              have HE : Hid (Enc ⟨false, ⟨#[]⟩, ⟨#[]⟩⟩ qq) := Lib.hid (by rw [hrq.2]; exact Enc_zero)
              have HR1 : Hid (r = 3) := Lib.hid hrq.1
              clear hrq
              have b0c0 := b0.c0
              have b0c1 := b0.c1
              have b0c2 := b0.c2
              have b0f0 := b0.f0
              have b0f1 := b0.f1
              have b0f2 := b0.f2
              have b0l := b0.lt
              go_wp2_with fail
              have S := b0.store (.bool false) (.string ⟨#[]⟩) (.string ⟨#[]⟩)
              rw [HR1.out]
              exact bodyPost_ret (v := .tuple #[.agg #[.bool false, .string ⟨#[]⟩, .string ⟨#[]⟩], .int .i64 3]) (by simp [results, Tryz.results96, go_sem, S.c0, S.c1, S.c2]) rfl ⟨⟨false, ⟨#[]⟩, ⟨#[]⟩⟩, rfl, HE.out, hch.store3 (.inr (Nat.le_refl _)) _ _ _⟩
            · have HC2 := Lib.hid hc
              clear hc
              refine (digits_any D _ (by omega)).mono ?_
              rintro e _ ⟨rfl, rfl⟩
              rw [HC2.out]
              by_cases hz : D = ⟨#[48]⟩
              · subst hz
                have hrq : r = 1 ∧ qq = 0 := hpp.out _ _ (by rw [hpi.out]; have := quo_zero (p := A.data.toList) (q := [48]) neg HC.out (by decide) (by rw [size_len]; omega) (by decide) (by decide); exact Prod.ext this.1 this.2)
                have HE : Hid (Enc ⟨false, ⟨#[]⟩, ⟨#[]⟩⟩ qq) := Lib.hid (by rw [hrq.2]; exact Enc_zero)
                have HR1 : Hid (r = 1) := Lib.hid hrq.1
                clear hrq
                have b0c0 := b0.c0
                have b0c1 := b0.c1
                have b0c2 := b0.c2
                have b0f0 := b0.f0
                have b0f1 := b0.f1
                have b0f2 := b0.f2
                have b0l := b0.lt
                go_wp2_with fail
                have S := b0.store (.bool false) (.string ⟨#[]⟩) (.string ⟨#[]⟩)
                rw [HR1.out]
                exact bodyPost_ret (v := .tuple #[.agg #[.bool false, .string ⟨#[]⟩, .string ⟨#[]⟩], .int .i64 1]) (by simp [results, Tryz.results96, go_sem, S.c0, S.c1, S.c2]) rfl ⟨⟨false, ⟨#[]⟩, ⟨#[]⟩⟩, rfl, HE.out, hch.store3 (.inr (Nat.le_refl _)) _ _ _⟩
              · have hz1 : Hid (dv D.data.toList ≠ 0) := Lib.hid (canD_pos HC2.out (fun h => hz (ba_eq h)))
                have hz2 : (D.toList == [48]) = false := by rw [beq_eq_false_iff_ne, ByteArray.toList_eq]; exact fun h => hz (ba_eq h)
                have hrq : r = 0 ∧ qq = sq neg (dv A.data.toList) (dv D.data.toList) := hpp.out _ _ (by rw [hpi.out]; have := quo_good (p := A.data.toList) (q := D.data.toList) neg HC.out HC2.out (by rw [size_len]; omega) (by rw [size_len]; omega) hz1.out; rw [this.1, this.2])
                have HR1 : Hid (r = 0) := Lib.hid hrq.1
                have HQ1 : Hid (qq = sq neg (dv A.data.toList) (dv D.data.toList)) := Lib.hid hrq.2
                clear hrq
                go_wp2_with fail
                refine (value_any A _ (by omega) (canD_all HC.out)).mono ?_
                rintro e w1 ⟨v, rfl, L, hL, dL, nL, vL, lL, c1⟩
                replace b0 := b0.keep c1 (by simp)
                replace hch := hch.then c1
                clear c1
                have VL := Lib.hid vL
                clear vL
                go_wp2_with fail
                refine (value_any D _ (by omega) (canD_all HC2.out)).mono ?_
                rintro e w2 ⟨u, rfl, M, hM, dM, nM, vM, lM, c1⟩
                replace b0 := b0.keep c1 (by simp)
                replace hch := hch.then c1
                replace hL := hL.keep c1
                clear c1
                have VM := Lib.hid vM
                clear vM
                cases hM with
                | nil => exact absurd VM.out.symm hz1.out
                | row gm cm _ hM =>
                  go_wp2_with fail
                  refine (reduced_sl neg gm cm M _ hL hM dL dM nL nM (by omega) (by omega) VL.out VM.out hz1.out).mono ?_
                  rintro e w3 ⟨x, rfl, hx, c1⟩
                  replace b0 := b0.keep c1 (by simp)
                  replace hch := hch.then c1
                  clear c1 hL hM
                  have HX : Hid (Enc x qq) := Lib.hid (by rw [HQ1.out]; exact hx)
                  clear hx
                  have b0c0 := b0.c0
                  have b0c1 := b0.c1
                  have b0c2 := b0.c2
                  have b0f0 := b0.f0
                  have b0f1 := b0.f1
                  have b0f2 := b0.f2
                  have b0l := b0.lt
                  go_wp2_with fail
                  have S := b0.store (.bool x.neg) (.string x.num) (.string x.den)
                  rw [HR1.out]
                  exact bodyPost_ret (v := .tuple #[.agg #[.bool x.neg, .string x.num, .string x.den], .int .i64 0]) (by simp [results, Tryz.results96, go_sem, S.c0, S.c1, S.c2]) rfl ⟨x, rfl, HX.out, hch.store3 (.inr (Nat.le_refl _)) _ _ _⟩
      · have HO := Lib.hid ho
        have HOF := Lib.hid hof
        clear ho hof
        have C46 : Hid (cutAt (bodyP s.data.toList) 46 = some (t.data.toList.take o, t.data.toList.drop (o + 1))) := by
          show _ = _
          rw [← htl.out]; exact cutAt_first HO.out HOF.out
        refine (rcut_some t 46 46 c46 o _ (by omega) HO HOF).mono ?_
        rintro e w1 ⟨rfl, c1⟩
        replace b0 := b0.keep c1 (by simp)
        replace hch := hch.then c1
        clear c1
        have za := ext_size t 0 o
        have zb := ext_size t (o + 1) t.size
        have ea : Hid ((t.extract 0 o).data.toList = t.data.toList.take o) := Lib.hid (ext_take t o)
        have eb : Hid ((t.extract (o + 1) t.size).data.toList = t.data.toList.drop (o + 1)) := Lib.hid (ext_drop t (o + 1))
        obtain ⟨A, HA⟩ := name_it (t.extract 0 o)
        obtain ⟨D, HD⟩ := name_it (t.extract (o + 1) t.size)
        rw [HA.out] at za ea ⊢
        rw [HD.out] at zb eb ⊢
        replace za : A.size ≤ 2000 := Nat.le_trans za zt
        replace zb : D.size ≤ 2000 := Nat.le_trans zb zt
        have hbad : Hid ((canD A.data.toList && someD D.data.toList) = false → parseP s.data.toList = (3, 0)) := by
          show _ → _
          intro h
          rw [ea.out, eb.out] at h
          have h1 := HO.out
          have h2 := HOF.out
          have h3 := C46.out
          rw [htl.out] at h h1 h2 h3
          exact pp_dot_bad h3 o h1 h2 h
        have hgood : Hid (canD A.data.toList = true → someD D.data.toList = true → parseP s.data.toList = (0, sq neg (dv (A.data.toList ++ D.data.toList)) (10 ^ D.size))) := by
          show _ → _
          intro k1 k2
          have l1 : A.data.toList.length ≤ 2000 := by rw [size_len]; exact za
          have l2 : D.data.toList.length ≤ 2000 := by rw [size_len]; exact zb
          rw [← size_len D]
          rw [ea.out] at k1 l1 ⊢
          rw [eb.out] at k2 l2 ⊢
          have h1 := HO.out
          have h3 := C46.out
          rw [← HN.out]
          rw [htl.out] at *
          exact pp_dot_good h3 o rfl rfl h1 k1 k2 l1 l2
        clear C46 HO HOF ea eb HA HD
        go_wp2_with fail
        refine (rcut_ex t 47 47 c47 _ (by omega)).mono ?_
        rintro e w2 ⟨xa, xb, xf, rfl, c1⟩
        replace b0 := b0.keep c1 (by simp)
        replace hch := hch.then c1
        clear c1
        go_wp2_with fail
        cases hc : canD A.data.toList
        · have HC := Lib.hid hc
          clear hc
          refine (digits_any A _ (by omega)).mono ?_
          rintro e _ ⟨rfl, rfl⟩
          rw [HC.out]
          have hrq : r = 3 ∧ qq = 0 := hpp.out _ _ (hbad.out (by rw [HC.out]; rfl))
          have HE : Hid (Enc ⟨false, ⟨#[]⟩, ⟨#[]⟩⟩ qq) := Lib.hid (by rw [hrq.2]; exact Enc_zero)
          have HR1 : Hid (r = 3) := Lib.hid hrq.1
          clear hrq
          have b0c0 := b0.c0
          have b0c1 := b0.c1
          have b0c2 := b0.c2
          have b0f0 := b0.f0
          have b0f1 := b0.f1
          have b0f2 := b0.f2
          have b0l := b0.lt
          go_wp2_with fail
          have S := b0.store (.bool false) (.string ⟨#[]⟩) (.string ⟨#[]⟩)
          rw [HR1.out]
          exact bodyPost_ret (v := .tuple #[.agg #[.bool false, .string ⟨#[]⟩, .string ⟨#[]⟩], .int .i64 3]) (by simp [results, Tryz.results96, go_sem, S.c0, S.c1, S.c2]) rfl ⟨⟨false, ⟨#[]⟩, ⟨#[]⟩⟩, rfl, HE.out, hch.store3 (.inr (Nat.le_refl _)) _ _ _⟩
        · have HC := Lib.hid hc
          clear hc
          refine (digits_any A _ (by omega)).mono ?_
          rintro e _ ⟨rfl, rfl⟩
          rw [HC.out]
          go_wp2_with fail
          cases hc : someD D.data.toList
          · have HC2 := Lib.hid hc
            clear hc
            refine (rsome_any D _ (by omega)).mono ?_
            rintro e _ ⟨rfl, rfl⟩
            rw [HC2.out]
            have hrq : r = 3 ∧ qq = 0 := hpp.out _ _ (hbad.out (by rw [HC2.out, Bool.and_false]))
            have HE : Hid (Enc ⟨false, ⟨#[]⟩, ⟨#[]⟩⟩ qq) := Lib.hid (by rw [hrq.2]; exact Enc_zero)
            have HR1 : Hid (r = 3) := Lib.hid hrq.1
            clear hrq
            have b0c0 := b0.c0
            have b0c1 := b0.c1
            have b0c2 := b0.c2
            have b0f0 := b0.f0
            have b0f1 := b0.f1
            have b0f2 := b0.f2
            have b0l := b0.lt
            go_wp2_with fail
            have S := b0.store (.bool false) (.string ⟨#[]⟩) (.string ⟨#[]⟩)
            rw [HR1.out]
            exact bodyPost_ret (v := .tuple #[.agg #[.bool false, .string ⟨#[]⟩, .string ⟨#[]⟩], .int .i64 3]) (by simp [results, Tryz.results96, go_sem, S.c0, S.c1, S.c2]) rfl ⟨⟨false, ⟨#[]⟩, ⟨#[]⟩⟩, rfl, HE.out, hch.store3 (.inr (Nat.le_refl _)) _ _ _⟩
          · have HC2 := Lib.hid hc
            clear hc
            refine (rsome_any D _ (by omega)).mono ?_
            rintro e _ ⟨rfl, rfl⟩
            rw [HC2.out]
            go_wp2_with fail
            have hrq := hpp.out _ _ (hgood.out HC.out HC2.out)
            have HR1 : Hid (r = 0) := Lib.hid hrq.1
            have HQ1 : Hid (qq = sq neg (dv (A.data.toList ++ D.data.toList)) (10 ^ D.size)) := Lib.hid hrq.2
            clear hrq hbad hgood
            obtain ⟨n, HZ⟩ := name_it D.size
            have zn : n ≤ 2000 := by rw [← HZ.out]; exact zb
            have hrow : Row 120 .u32 (w2.alloc (.cells #[.int .u32 1] 120)) w2.heap.size 1 [1] := Row.of_alloc w2 _ [1] (by simp [vals]) (by simp)
            replace b0 := b0.keep ((Chg.refl [] _).alloc (.cells #[.int .u32 1] 120)) (by simp)
            replace hch := hch.then ((Chg.refl [] _).alloc (.cells #[.int .u32 1] 120))
            go_loopw [11, 12] (fun tv iv wr => ∃ (i g c : Nat) (T : List Nat), i ≤ n ∧ iv = .int .i64 i ∧ tv = .slice (some ⟨g, 0, none⟩) T.length c ∧ Row 120 .u32 wr g c T ∧ dig 4294967296 T ∧ noz T ∧ lv 4294967296 T = 10 ^ i ∧ T.length ≤ 1 + i ∧ Blk3 wr w.heap.size (.bool false) (.string ⟨#[]⟩) (.string ⟨#[]⟩) ∧ Chg [] w wr) (fun _ iv _ => n - (intOf iv).toNat)
            case atStart => exact ⟨0, w2.heap.size, 1, [1], Nat.zero_le _, rfl, rfl, hrow, dig_one, noz_one, by simp, by simp, b0, hch⟩
            case round =>
              clear hrow b0 hch
              obtain ⟨i, g, c, T, hi, rfl, rfl, hT, dT, nT, vT, lT, b0, hch⟩ := hrel
              have VT := Lib.hid vT
              clear vT
              by_cases hlt : i < n
              · have hlt2 : i < D.size := by rw [HZ.out]; exact hlt
                go_wp2_with fail
                have hrow : Row 120 .u32 (wr.alloc (.cells #[.int .u32 10] 120)) wr.heap.size 1 [10] := Row.of_alloc wr _ [10] (by simp [vals]) (by simp)
                refine (times_any g c wr.heap.size 1 T [10] _ (hT.keep ((Chg.refl [] _).alloc _) (by simp)) hrow dT dig_ten2 (by omega) (by simp)).mono ?_
                rintro e w3 ⟨g2, c2, T2, rfl, hT2, dT2, nT2, vT2, lT2, c1⟩
                have c3 := ((Chg.refl [] wr).alloc (.cells #[.int .u32 10] 120)).then c1
                replace b0 := b0.keep c3 (by simp)
                replace hch := hch.then c3
                have VT2 : Hid (lv 4294967296 T2 = 10 ^ (i + 1)) := by show _ = _; rw [vT2, VT.out, Nat.pow_succ]; simp
                have lT3 : T2.length ≤ 1 + (i + 1) := by simp at lT2; omega
                clear hT hrow c1 c3 vT2 lT2
                go_wp2_with fail
                go_roundw
                case rel => exact ⟨i + 1, g2, c2, T2, by omega, by go_num, rfl, hT2, dT2, nT2, VT2.out, lT3, b0, hch⟩
                case measure => simp [intOf]; omega
              · obtain rfl : i = n := by omega
                have hge : ¬ i < D.size := by rw [HZ.out]; omega
                clear hlt hi
                go_wp2_with fail
                have hallAD : Hid ((A ++ D).data.toList.all isD = true) := by
                  show _ = _
                  have k := HC2.out
                  unfold someD at k
                  simp only [Bool.and_eq_true] at k
                  rw [app_list, List.all_append, canD_all HC.out, k.2]; rfl
                have hszAD : (A ++ D).size ≤ 4000 := by rw [ByteArray.size_append]; omega
                have hvAD : Hid (dv (A ++ D).data.toList = dv (A.data.toList ++ D.data.toList)) := Lib.hid (by rw [app_list])
                refine (value_any (A ++ D) _ (by omega) hallAD.out).mono ?_
                rintro e w4 ⟨v, rfl, L, hL, dL, nL, vL, lL, c1⟩
                replace b0 := b0.keep c1 (by simp)
                replace hch := hch.then c1
                replace hT := hT.keep c1 (by simp)
                clear c1
                have VL := Lib.hid (vL.trans hvAD.out)
                clear vL
                go_wp2_with fail
                refine (strip_sl _ hL nL).mono ?_
                rintro e _ ⟨rfl, rfl⟩
                go_wp2_with fail
                refine (reduced_sl neg g c T _ hL hT dL dT nL nT (by omega) (by omega) VL.out VT.out (Nat.ne_of_gt (Nat.pow_pos (by omega)))).mono ?_
                rintro e w5 ⟨x, rfl, hx, c1⟩
                replace b0 := b0.keep c1 (by simp)
                replace hch := hch.then c1
                clear c1 hL hT
                have HX : Hid (Enc x qq) := Lib.hid (by rw [HQ1.out, HZ.out]; exact hx)
                clear hx
                have b0c0 := b0.c0
                have b0c1 := b0.c1
                have b0c2 := b0.c2
                have b0f0 := b0.f0
                have b0f1 := b0.f1
                have b0f2 := b0.f2
                have b0l := b0.lt
                go_wp2_with fail
                have S := b0.store (.bool x.neg) (.string x.num) (.string x.den)
                rw [HR1.out]
                exact bodyPost_ret (v := .tuple #[.agg #[.bool x.neg, .string x.num, .string x.den], .int .i64 0]) (by simp [results, Tryz.results96, go_sem, S.c0, S.c1, S.c2]) rfl ⟨x, rfl, HX.out, hch.store3 (.inr (Nat.le_refl _)) _ _ _⟩

end Go.Proofs.YtogciehmdlfkfaaGreatDoor
