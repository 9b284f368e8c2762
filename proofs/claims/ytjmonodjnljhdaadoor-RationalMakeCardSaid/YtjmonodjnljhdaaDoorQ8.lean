/-
  Walks of package rational: parseQuotient, parseDecimal, Cut, Parse.
-/
import Derived.Test.YtjmonodjnljhdaaDoorQ7
import Derived.Test.YtjmonodjnljhdaaDoorShelf2
namespace Go.Proofs.YtjmonodjnljhdaaDoor
open Go.RowKit Nd

theorem firstE_zero {a b : Int} (h : firstE a b = 0) : a = 0 ∧ b = 0 := by
  unfold firstE at h
  split at h
  · rename_i h1
    rcases h1 with h1 | h1
    · exact ⟨h1, h⟩
    · omega
  · rename_i h1
    exact absurd (.inl h) h1
def quoE (l m : List UInt8) : Int := if firstE (pE l) (pE m) ≠ 0 then firstE (pE l) (pE m) else if dv m = 0 then 1 else 0
def quoQ (neg : Bool) (l m : List UInt8) : Rat := if quoE l m = 0 then sq neg (dv l) (dv m) else 0
def decE (l m : List UInt8) : Int := firstE (pE l) (dE m)
def decQ (neg : Bool) (l m : List UInt8) : Rat := if decE l m = 0 then sq neg (dv l * 10 ^ m.length + dv m) (10 ^ m.length) else 0

set_option maxRecDepth 20000 in
set_option maxHeartbeats 1000000 in
theorem parseQuotient_any (neg : Bool) (N D : ByteArray) (w : World) (hN : N.size ≤ 1099511627776) (hD : D.size ≤ 1099511627776) :
    Calls Tryd.prog 58 #[.bool neg, .string N, .string D] w fun e w' => ∃ x, e = .returned (.tuple #[.agg #[.bool x.neg, .string x.num, .string x.den], .int .i64 (quoE N.data.toList D.data.toList)]) ∧ Enc x (quoQ neg N.data.toList D.data.toList) ∧ Chg [] w w' := by
  have b0 := Blk3.alloc w (.bool false) (.string ⟨#[]⟩) (.string ⟨#[]⟩) 29
  have hch : Chg [] w (w.alloc (.cells #[.bool false, .string ⟨#[]⟩, .string ⟨#[]⟩] 29)) := (Chg.refl _ _).alloc _
  obtain ⟨r, HR⟩ := name_it (quoE N.data.toList D.data.toList)
  obtain ⟨qq, HQ⟩ := name_it (quoQ neg N.data.toList D.data.toList)
  rw [HR.out, HQ.out]
  go_enter Tryd.func58, Tryd.ntmps58
  go_wp2_with fail
  refine (parse_all N _ hN).mono ?_
  rintro e w1 ⟨n, rfl, hn, zn, c1⟩
  replace b0 := b0.keep c1 (by simp)
  replace hch := hch.then c1
  clear c1
  obtain ⟨e1, E1⟩ := name_it (pE N.data.toList)
  rw [E1.out] at hn ⊢
  have HN := Lib.hid hn
  clear hn
  have b0c0 := b0.c0
  have b0c1 := b0.c1
  have b0c2 := b0.c2
  have b0f0 := b0.f0
  have b0f1 := b0.f1
  have b0f2 := b0.f2
  have b0l := b0.lt
  go_wp2_with fail
  refine (parse_all D _ hD).mono ?_
  rintro e w1 ⟨d, rfl, hd, zd, c1⟩
  clear b0c0 b0c1 b0c2 b0f0 b0f1 b0f2 b0l
  replace b0 := b0.keep c1 (by simp)
  replace hch := hch.then c1
  clear c1
  obtain ⟨e2, E2⟩ := name_it (pE D.data.toList)
  rw [E2.out] at hd ⊢
  have HD := Lib.hid hd
  clear hd
  have b0c0 := b0.c0
  have b0c1 := b0.c1
  have b0c2 := b0.c2
  have b0f0 := b0.f0
  have b0f1 := b0.f1
  have b0f2 := b0.f2
  have b0l := b0.lt
  go_wp2_with fail
  refine (first_any e1 e2 _).mono ?_
  rintro e w1 ⟨rfl, rfl⟩
  obtain ⟨fe, FE⟩ := name_it (firstE e1 e2)
  rw [FE.out]
  by_cases hf : fe = 0
  · have hz := firstE_zero (FE.out.trans hf)
    obtain ⟨z1, z2⟩ := hz
    have IN := Lib.hid (HN.out z1)
    have ID := Lib.hid (HD.out z2)
    have hr : Hid (r = if dv D.data.toList = 0 then 1 else 0) := by
      show _ = _
      rw [← HR.out]; unfold quoE; rw [E1.out, E2.out, FE.out, if_neg (by simp [hf])]
    have hq : Hid (qq = if r = 0 then sq neg (dv N.data.toList) (dv D.data.toList) else 0) := by
      show _ = _
      rw [← HQ.out]; unfold quoQ; rw [HR.out]
    clear z1 z2
    subst hf
    by_cases h0 : dv D.data.toList = 0
    · rw [if_pos h0] at hr
      have hr1 : Hid (r = 1) := hr.out
      have hv : Hid (val d = 0) := by show _ = _; rw [Is_val ID.out]; exact h0
      have HE : Hid (Enc ⟨false, ⟨#[]⟩, ⟨#[]⟩⟩ qq) := Lib.hid (by rw [hq.out, hr1.out]; simp; exact Enc_zero)
      clear h0 hr
      go_wp2_with fail
      refine (Make_zero neg n d _ (by omega) (by omega) hv.out).mono ?_
      rintro e w1 ⟨rfl, c1⟩
      clear b0c0 b0c1 b0c2 b0f0 b0f1 b0f2 b0l
      replace b0 := b0.keep c1 (by simp)
      replace hch := hch.then c1
      clear c1
      have b0c0 := b0.c0
      have b0c1 := b0.c1
      have b0c2 := b0.c2
      have b0f0 := b0.f0
      have b0f1 := b0.f1
      have b0f2 := b0.f2
      have b0l := b0.lt
      go_wp2_with fail
      have S := (b0.store (.bool false) (.string ⟨#[]⟩) (.string ⟨#[]⟩)).keep ((Chg.refl [] _).alloc (.cells #[.bool false, .string ⟨#[]⟩, .string ⟨#[]⟩] 29)) (by simp)
      rw [hr1.out]
      exact bodyPost_ret (v := .tuple #[.agg #[.bool false, .string ⟨#[]⟩, .string ⟨#[]⟩], .int .i64 1]) (by simp [results, Tryd.results58, go_sem, S.c0, S.c1, S.c2]) rfl ⟨⟨false, ⟨#[]⟩, ⟨#[]⟩⟩, rfl, HE.out, (hch.store3 (.inr (Nat.le_refl _)) _ _ _).alloc _⟩
    · rw [if_neg h0] at hr
      have hr1 : Hid (r = 0) := hr.out
      have hv : Hid (val d ≠ 0) := by show _ ≠ _; rw [Is_val ID.out]; exact h0
      have hqq : Hid (sq neg (val n) (val d) = qq) := by show _ = _; rw [hq.out, hr1.out, Is_val IN.out, Is_val ID.out]; simp
      clear h0 hr
      go_wp2_with fail
      refine (Make_any neg n d _ (by omega) (by omega) hv.out).mono ?_
      rintro e w1 ⟨x, rfl, hx, c1⟩
      clear b0c0 b0c1 b0c2 b0f0 b0f1 b0f2 b0l
      replace b0 := b0.keep c1 (by simp)
      replace hch := hch.then c1
      clear c1
      rw [hqq.out] at hx
      have HX := Lib.hid hx
      clear hx
      have b0c0 := b0.c0
      have b0c1 := b0.c1
      have b0c2 := b0.c2
      have b0f0 := b0.f0
      have b0f1 := b0.f1
      have b0f2 := b0.f2
      have b0l := b0.lt
      go_wp2_with fail
      have S := (b0.store (.bool x.neg) (.string x.num) (.string x.den)).keep ((Chg.refl [] _).alloc (.cells #[.bool x.neg, .string x.num, .string x.den] 29)) (by simp)
      rw [hr1.out]
      exact bodyPost_ret (v := .tuple #[.agg #[.bool x.neg, .string x.num, .string x.den], .int .i64 0]) (by simp [results, Tryd.results58, go_sem, S.c0, S.c1, S.c2]) rfl ⟨x, rfl, HX.out, (hch.store3 (.inr (Nat.le_refl _)) _ _ _).alloc _⟩
  · have hr : Hid (r = fe) := by
      show _ = _
      rw [← HR.out]; unfold quoE; rw [E1.out, E2.out, FE.out, if_pos hf]
    have HE : Hid (Enc ⟨false, ⟨#[]⟩, ⟨#[]⟩⟩ qq) := Lib.hid (by rw [← HQ.out]; unfold quoQ; rw [HR.out, hr.out, if_neg hf]; exact Enc_zero)
    have hfb : (fe == 0) = false := by rw [beq_eq_false_iff_ne]; exact hf
    have hfb2 : (fe != 0) = true := by rw [bne_iff_ne]; exact hf
    clear hf
    go_wp2_with fail
    have S := b0.store (.bool false) (.string ⟨#[]⟩) (.string ⟨#[]⟩)
    rw [hr.out]
    exact bodyPost_ret (v := .tuple #[.agg #[.bool false, .string ⟨#[]⟩, .string ⟨#[]⟩], .int .i64 fe]) (by simp [results, Tryd.results58, go_sem, S.c0, S.c1, S.c2]) rfl ⟨⟨false, ⟨#[]⟩, ⟨#[]⟩⟩, rfl, HE.out, hch.store3 (.inr (Nat.le_refl _)) _ _ _⟩

set_option maxRecDepth 20000 in
set_option maxHeartbeats 1000000 in
theorem parseDecimal_any (neg : Bool) (N D : ByteArray) (w : World) (hN : N.size ≤ 1099511627776) (hD : D.size ≤ 1099511627776) :
    Calls Tryd.prog 59 #[.bool neg, .string N, .string D] w fun e w' => ∃ x, e = .returned (.tuple #[.agg #[.bool x.neg, .string x.num, .string x.den], .int .i64 (decE N.data.toList D.data.toList)]) ∧ Enc x (decQ neg N.data.toList D.data.toList) ∧ Chg [] w w' := by
  have b0 := Blk3.alloc w (.bool false) (.string ⟨#[]⟩) (.string ⟨#[]⟩) 29
  have hch : Chg [] w (w.alloc (.cells #[.bool false, .string ⟨#[]⟩, .string ⟨#[]⟩] 29)) := (Chg.refl _ _).alloc _
  obtain ⟨r, HR⟩ := name_it (decE N.data.toList D.data.toList)
  obtain ⟨qq, HQ⟩ := name_it (decQ neg N.data.toList D.data.toList)
  rw [HR.out, HQ.out]
  go_enter Tryd.func59, Tryd.ntmps59
  go_wp2_with fail
  refine (parse_all N _ hN).mono ?_
  rintro e w1 ⟨n, rfl, hn, zn, c1⟩
  replace b0 := b0.keep c1 (by simp)
  replace hch := hch.then c1
  clear c1
  obtain ⟨e1, E1⟩ := name_it (pE N.data.toList)
  rw [E1.out] at hn ⊢
  have HN := Lib.hid hn
  clear hn
  have b0c0 := b0.c0
  have b0c1 := b0.c1
  have b0c2 := b0.c2
  have b0f0 := b0.f0
  have b0f1 := b0.f1
  have b0f2 := b0.f2
  have b0l := b0.lt
  go_wp2_with fail
  refine (parseDigits_any D _ hD).mono ?_
  rintro e w1 ⟨d, rfl, hd, zd, c1⟩
  clear b0c0 b0c1 b0c2 b0f0 b0f1 b0f2 b0l
  replace b0 := b0.keep c1 (by simp)
  replace hch := hch.then c1
  clear c1
  obtain ⟨e2, E2⟩ := name_it (dE D.data.toList)
  rw [E2.out] at hd ⊢
  have HD := Lib.hid hd
  clear hd
  have b0c0 := b0.c0
  have b0c1 := b0.c1
  have b0c2 := b0.c2
  have b0f0 := b0.f0
  have b0f1 := b0.f1
  have b0f2 := b0.f2
  have b0l := b0.lt
  go_wp2_with fail
  refine (first_any e1 e2 _).mono ?_
  rintro e w1 ⟨rfl, rfl⟩
  obtain ⟨fe, FE⟩ := name_it (firstE e1 e2)
  rw [FE.out]
  have hr : Hid (r = fe) := by
    show _ = _
    rw [← HR.out]; unfold decE; rw [E1.out, E2.out, FE.out]
  by_cases hf : fe = 0
  · have hz := firstE_zero (FE.out.trans hf)
    obtain ⟨z1, z2⟩ := hz
    have hD0 : Hid (D.size ≤ 2000) := by
      show _ ≤ _
      have h1 := E2.out
      rw [z2] at h1
      unfold dE at h1
      split at h1
      · simp at h1
      · split at h1
        · split at h1
          · simp at h1
          · rename_i h2; rw [size_len] at h2; omega
        · simp at h1
    have hD1 := hD0.out
    have IN := Lib.hid (HN.out z1)
    have ID := Lib.hid (HD.out z2)
    have hq : Hid (qq = sq neg (dv N.data.toList * 10 ^ D.size + dv D.data.toList) (10 ^ D.size)) := by
      show _ = _
      rw [← HQ.out]; unfold decQ; rw [HR.out, hr.out, if_pos hf, size_len]
    clear z1 z2
    subst hf
    go_wp2_with fail
    refine (pow10_any D.size D.size _ (Nat.le_refl _) (by omega)).mono ?_
    rintro e w1 ⟨s, rfl, hs, c1⟩
    clear b0c0 b0c1 b0c2 b0f0 b0f1 b0f2 b0l
    replace b0 := b0.keep c1 (by simp)
    replace hch := hch.then c1
    clear c1
    have zs : s.size ≤ 10000 := Nat.le_trans (Is_size hs _ (pow10_lt D.size)) (by omega)
    have HS := Lib.hid hs
    clear hs
    have b0c0 := b0.c0
    have b0c1 := b0.c1
    have b0c2 := b0.c2
    have b0f0 := b0.f0
    have b0f1 := b0.f1
    have b0f2 := b0.f2
    have b0l := b0.lt
    go_wp2_with fail
    refine (multiply_any n s _ (by omega) (by omega)).mono ?_
    rintro e w1 ⟨t, rfl, ht, c1⟩
    clear b0c0 b0c1 b0c2 b0f0 b0f1 b0f2 b0l
    replace b0 := b0.keep c1 (by simp)
    replace hch := hch.then c1
    clear c1
    have zt : t.size ≤ 100000 := Nat.le_trans (Is_size ht _ (mul_lt_pow (val_lt n) (val_lt s))) (by omega)
    rw [Is_val IN.out, Is_val HS.out] at ht
    have HT := Lib.hid ht
    clear ht
    have b0c0 := b0.c0
    have b0c1 := b0.c1
    have b0c2 := b0.c2
    have b0f0 := b0.f0
    have b0f1 := b0.f1
    have b0f2 := b0.f2
    have b0l := b0.lt
    go_wp2_with fail
    refine (add_any t d _ (by omega) (by omega)).mono ?_
    rintro e w1 ⟨u, rfl, hu, c1⟩
    clear b0c0 b0c1 b0c2 b0f0 b0f1 b0f2 b0l
    replace b0 := b0.keep c1 (by simp)
    replace hch := hch.then c1
    clear c1
    have zu : u.size ≤ 1000000 := Nat.le_trans (Is_size hu _ (add_lt_pow (k := t.size + d.size) (lt_pow_le (val_lt t) (by omega)) (lt_pow_le (val_lt d) (by omega)))) (by omega)
    rw [Is_val HT.out, Is_val ID.out] at hu
    have HU := Lib.hid hu
    clear hu
    have b0c0 := b0.c0
    have b0c1 := b0.c1
    have b0c2 := b0.c2
    have b0f0 := b0.f0
    have b0f1 := b0.f1
    have b0f2 := b0.f2
    have b0l := b0.lt
    go_wp2_with fail
    refine (Make_any neg u s _ (by omega) (by omega) (by rw [Is_val HS.out]; exact Nat.ne_of_gt (Nat.pow_pos (by omega)))).mono ?_
    rintro e w1 ⟨x, rfl, hx, c1⟩
    clear b0c0 b0c1 b0c2 b0f0 b0f1 b0f2 b0l
    replace b0 := b0.keep c1 (by simp)
    replace hch := hch.then c1
    clear c1
    rw [Is_val HU.out, Is_val HS.out, ← hq.out] at hx
    have HX := Lib.hid hx
    clear hx
    have b0c0 := b0.c0
    have b0c1 := b0.c1
    have b0c2 := b0.c2
    have b0f0 := b0.f0
    have b0f1 := b0.f1
    have b0f2 := b0.f2
    have b0l := b0.lt
    go_wp2_with fail
    have S := (b0.store (.bool x.neg) (.string x.num) (.string x.den)).keep ((Chg.refl [] _).alloc (.cells #[.bool x.neg, .string x.num, .string x.den] 29)) (by simp)
    rw [hr.out]
    exact bodyPost_ret (v := .tuple #[.agg #[.bool x.neg, .string x.num, .string x.den], .int .i64 0]) (by simp [results, Tryd.results59, go_sem, S.c0, S.c1, S.c2]) rfl ⟨x, rfl, HX.out, (hch.store3 (.inr (Nat.le_refl _)) _ _ _).alloc _⟩
  · have HE : Hid (Enc ⟨false, ⟨#[]⟩, ⟨#[]⟩⟩ qq) := Lib.hid (by rw [← HQ.out]; unfold decQ; rw [HR.out, hr.out, if_neg hf]; exact Enc_zero)
    have hfb : (fe == 0) = false := by rw [beq_eq_false_iff_ne]; exact hf
    have hfb2 : (fe != 0) = true := by rw [bne_iff_ne]; exact hf
    clear hf
    go_wp2_with fail
    have S := b0.store (.bool false) (.string ⟨#[]⟩) (.string ⟨#[]⟩)
    rw [hr.out]
    exact bodyPost_ret (v := .tuple #[.agg #[.bool false, .string ⟨#[]⟩, .string ⟨#[]⟩], .int .i64 fe]) (by simp [results, Tryd.results59, go_sem, S.c0, S.c1, S.c2]) rfl ⟨⟨false, ⟨#[]⟩, ⟨#[]⟩⟩, rfl, HE.out, hch.store3 (.inr (Nat.le_refl _)) _ _ _⟩

end Go.Proofs.YtjmonodjnljhdaaDoor
