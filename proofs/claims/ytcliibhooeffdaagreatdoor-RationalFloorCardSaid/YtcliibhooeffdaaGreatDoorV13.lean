/-
  The reference: Floor.
-/
import Derived.Test.YtcliibhooeffdaaGreatDoorV12
namespace Go.Proofs.YtcliibhooeffdaaGreatDoor
open Go.RowKit Nd
set_option maxRecDepth 20000 in
set_option maxHeartbeats 2000000 in
theorem rFloorN (x : Q3) (p : Rat) (k : Nat) (w : World) (hx : Num x p k) (hk : k ≤ 34359738367) :
    Calls Tryz.prog 43 #[.agg #[.bool x.neg, .string x.num, .string x.den]] w fun e w' => ∃ z, e = .returned (.agg #[.bool z.neg, .string z.num, .string z.den]) ∧ Val z (flo p) (k + 1) ∧ Chg [] w w' := by
  obtain ⟨b1, b2, hch⟩ := box1 w x 23
  go_enter Tryz.func43, Tryz.ntmps43
  go_wp2_with fail
  obtain ⟨w0, HWw0⟩ := name_it (((w).alloc (.cells #[.bool x.neg, .string x.num, .string x.den] 23)).alloc (.cells #[.bool false, .string ⟨#[]⟩, .string ⟨#[]⟩] 23))
  rw [HWw0.out] at b1 b2 hch ⊢
  refine (rFixN x p k _ hx (by omega)).mono ?_
  rintro e w1 ⟨z, rfl, hz, c1⟩
  replace b1 := b1.keep c1 (by simp)
  replace b2 := b2.keep c1 (by simp)
  replace hch := hch.then c1
  clear c1 hx
  have hde : z.den.toList.isEmpty = decide (p.den = 1) := by
    rw [Is_empty hz.enc.den]
    have := p.den_nz
    by_cases h1 : p.den = 1 <;> simp [h1, this]
  by_cases h1 : p.den = 1
  · rw [decide_eq_true h1] at hde
    have HR : Hid (Val z (flo p) (k + 1)) := by
      show Val _ _ _
      rw [flo_int h1]; exact hz.mono (by omega)
    clear h1 hz
    have b1c0 := b1.c0
    have b1c1 := b1.c1
    have b1c2 := b1.c2
    have b1f0 := b1.f0
    have b1f1 := b1.f1
    have b1f2 := b1.f2
    have b1l := b1.lt
    have b2c0 := b2.c0
    have b2c1 := b2.c1
    have b2c2 := b2.c2
    have b2f0 := b2.f0
    have b2f1 := b2.f1
    have b2f2 := b2.f2
    have b2l := b2.lt
    go_wp2_with fail
    clear b1c0 b1f0 b1c1 b1f1 b1c2 b1f2 b1l b2c0 b2f0 b2c1 b2f1 b2c2 b2f2 b2l
    have B2 := b2.keep ((Chg.refl [w.heap.size] _).store3 (g := w.heap.size) (.inl (by simp)) (.bool z.neg) (.string z.num) (.string z.den)) (by simp)
    have S := B2.store (.bool z.neg) (.string z.num) (.string z.den)
    exact bodyPost_ret (v := .agg #[.bool z.neg, .string z.num, .string z.den]) (by simp [results, Tryz.results43, go_sem, S.c0, S.c1, S.c2]) rfl ⟨z, rfl, HR.out, (hch.store3 (g := w.heap.size) (.inr (by omega)) (.bool z.neg) (.string z.num) (.string z.den)).store3 (g := w.heap.size + 1) (.inr (by omega)) _ _ _⟩
  · rw [decide_eq_false h1] at hde
    have H1 := Lib.hid h1
    have HZ := Lib.hid hz
    have nz := hz.n1
    have dz := hz.n2
    clear h1 hz
    obtain ⟨zb, zN, zD⟩ := z
    simp only at nz dz hde ⊢
    have b1c0 := b1.c0
    have b1c1 := b1.c1
    have b1c2 := b1.c2
    have b1f0 := b1.f0
    have b1f1 := b1.f1
    have b1f2 := b1.f2
    have b1l := b1.lt
    have b2c0 := b2.c0
    have b2c1 := b2.c1
    have b2c2 := b2.c2
    have b2f0 := b2.f0
    have b2f1 := b2.f1
    have b2f2 := b2.f2
    have b2l := b2.lt
    go_wp2_with fail
    clear b1c0 b1f0 b1c1 b1f1 b1c2 b1f2 b1l b2c0 b2f0 b2c1 b2f1 b2c2 b2f2 b2l
    replace b1 := b1.store (.bool zb) (.string zN) (.string zD)
    replace b2 := b2.keep ((Chg.refl [w.heap.size] _).store3 (g := w.heap.size) (.inl (by simp)) (.bool zb) (.string zN) (.string zD)) (by simp)
    replace hch := hch.store3 (g := w.heap.size) (.inr (by omega)) (.bool zb) (.string zN) (.string zD)
    clear hde
    obtain ⟨w2, HWw2⟩ := name_it (((w1.setCell ⟨w.heap.size, 0, none⟩ (.bool zb)).setCell ⟨w.heap.size, 1, none⟩ (.string zN)).setCell ⟨w.heap.size, 2, none⟩ (.string zD))
    rw [HWw2.out] at b1 b2 hch ⊢
    replace b1 := b1.keep ((Chg.refl [] _).drew) (by simp)
    replace b2 := b2.keep ((Chg.refl [] _).drew) (by simp)
    replace hch := hch.drew
    go_region_held3 (fun w' => w'.cell? ⟨w.heap.size, 0, none⟩ = some (.bool zb) ∧ w'.cell? ⟨w.heap.size, 1, none⟩ = some (.string zN) ∧ w'.cell? ⟨w.heap.size, 2, none⟩ = some (.string zD)) (first | exact ⟨b1.c0, b1.c1, b1.c2⟩ | exact ⟨by simp [go_sem, b1.c0], by simp [go_sem, b1.c1], by simp [go_sem, b1.c2]⟩) (first
        | (go_at_call 75
           (with_reducible refine (limbs_any zN _ (by omega)).mono ?_)
           rintro e w1 ⟨ga, ca, A, rfl, hA, _, dA, nA, vA, lA, c1⟩
           replace b1 := b1.keep c1 (by simp)
           replace b2 := b2.keep c1 (by simp)
           replace hch := hch.then c1
           rw [Is_val HZ.out.enc.num] at vA
           have VA := Lib.hid vA
           clear vA
           clear c1)
        | (go_at_call 76
           (with_reducible refine (rden_any ⟨zb, zN, zD⟩ p _ HZ.out.enc (by show zD.size ≤ _; omega)).mono ?_)
           rintro e w1 ⟨gp, cp, P, rfl, hP, dP, nP, vP, lP, c1⟩
           replace b1 := b1.keep c1 (by simp)
           replace b2 := b2.keep c1 (by simp)
           replace hch := hch.then c1
           replace hA := hA.keep c1 (by simp)
           have VP := Lib.hid vP
           clear vP
           clear c1)
        | (go_at_call 74
           (with_reducible refine (rdivideN ga ca gp cp A P _ hA hP dA dP nA nP (by omega) (by rw [VP.out]; exact p.den_nz)).mono ?_)
           rintro e w1 ⟨qv, rv, Q, R, rfl, D, c1⟩
           replace b1 := b1.keep c1 (by simp)
           replace b2 := b2.keep c1 (by simp)
           replace hch := hch.then c1
           have hQ := D.q
           have dQ := D.dQ
           have nQ := D.nQ
           have lQ := D.lQ
           have vQ := D.vQ
           rw [VA.out, VP.out] at vQ
           have VQ := Lib.hid vQ
           clear D vQ
           clear c1))
    all_goals
      have HB := Lib.hid (bd_flo HZ.out.bd)
      have hng := HZ.out.enc.neg
      simp only at hng
      have HNG := Lib.hid hng
      clear hng
      clear hA hP
      have one : ∀ v : World, Row 43 .u32 (v.alloc (.cells #[.int .u32 1] 43)) v.heap.size 1 [1] := fun v => Row.of_alloc v _ [1] (by simp [vals]) (by simp)
      cases hQ
      · cases zb
        · have ng : ¬ p.num < 0 := by have := HNG.out; simpa using this
          have HN := Lib.hid ng
          clear ng
          have hf : Hid (sq false (lv 4294967296 []) 1 = flo p) := by show _ = _; rw [VQ.out]; exact flo_pos HN.out
          have b1c0 := b1.c0
          have b1c1 := b1.c1
          have b1c2 := b1.c2
          have b1f0 := b1.f0
          have b1f1 := b1.f1
          have b1f2 := b1.f2
          have b1l := b1.lt
          have b2c0 := b2.c0
          have b2c1 := b2.c1
          have b2c2 := b2.c2
          have b2f0 := b2.f0
          have b2f1 := b2.f1
          have b2f2 := b2.f2
          have b2l := b2.lt
          go_wp2_with fail
          clear b1c0 b1f0 b1c1 b1f1 b1c2 b1f2 b1l b2c0 b2f0 b2c1 b2f1 b2c2 b2f2 b2l
          refine (reduced_nil false _ _).mono ?_
          rintro e w3 ⟨rfl, c1⟩
          obtain ⟨y, HY⟩ := name_it q0
          have e0 : q0 = ⟨false, ⟨#[]⟩, ⟨#[]⟩⟩ := rfl
          have hy : Enc y (flo p) := by rw [← HY.out, ← hf.out]; exact Enc_zero
          rw [show (Value.agg #[.bool false, .string ⟨#[]⟩, .string ⟨#[]⟩]) = .agg #[.bool y.neg, .string y.num, .string y.den] by rw [← HY.out, e0]]
          clear e0
          have HV : Hid (Val y (flo p) (k + 1)) := ⟨hy, HB.out⟩
          clear hy
          replace b1 := (b1.keep ((Chg.refl [] _).alloc (.cells #[.int .u32 1] 43)) (by simp)).keep c1 (by simp)
          replace b2 := (b2.keep ((Chg.refl [] _).alloc (.cells #[.int .u32 1] 43)) (by simp)).keep c1 (by simp)
          replace hch := (hch.alloc (.cells #[.int .u32 1] 43)).then c1
          clear c1
          have b1c0 := b1.c0
          have b1c1 := b1.c1
          have b1c2 := b1.c2
          have b1f0 := b1.f0
          have b1f1 := b1.f1
          have b1f2 := b1.f2
          have b1l := b1.lt
          have b2c0 := b2.c0
          have b2c1 := b2.c1
          have b2c2 := b2.c2
          have b2f0 := b2.f0
          have b2f1 := b2.f1
          have b2f2 := b2.f2
          have b2l := b2.lt
          go_wp2_with fail
          have S := b2.store (.bool y.neg) (.string y.num) (.string y.den)
          exact bodyPost_ret (v := .agg #[.bool y.neg, .string y.num, .string y.den]) (by simp [results, Tryz.results43, go_sem, S.c0, S.c1, S.c2]) rfl ⟨y, rfl, HV.out, hch.store3 (.inr (by omega)) _ _ _⟩
        · have ng : p.num < 0 := by have := HNG.out; simpa using this
          have HN := Lib.hid ng
          clear ng
          have hf : Hid (sq true (lv 4294967296 [] + 1) 1 = flo p) := by show _ = _; rw [VQ.out]; exact flo_neg H1.out HN.out
          have b1c0 := b1.c0
          have b1c1 := b1.c1
          have b1c2 := b1.c2
          have b1f0 := b1.f0
          have b1f1 := b1.f1
          have b1f2 := b1.f2
          have b1l := b1.lt
          have b2c0 := b2.c0
          have b2c1 := b2.c1
          have b2c2 := b2.c2
          have b2f0 := b2.f0
          have b2f1 := b2.f1
          have b2f2 := b2.f2
          have b2l := b2.lt
          go_wp2_with fail
          clear b1c0 b1f0 b1c1 b1f1 b1c2 b1f2 b1l b2c0 b2f0 b2c1 b2f1 b2c2 b2f2 b2l
          refine (plus_nil w1.heap.size 1 _ (one w1)).mono ?_
          rintro e w3 ⟨gr, cr, rfl, hL, c1⟩
          have e0 : lv 4294967296 [] + 1 = lv 4294967296 [1] := rfl
          rw [e0] at hf
          clear e0
          replace b1 := (b1.keep ((Chg.refl [] _).alloc (.cells #[.int .u32 1] 43)) (by simp)).keep c1 (by simp)
          replace b2 := (b2.keep ((Chg.refl [] _).alloc (.cells #[.int .u32 1] 43)) (by simp)).keep c1 (by simp)
          replace hch := (hch.alloc (.cells #[.int .u32 1] 43)).then c1
          clear c1
          have b1c0 := b1.c0
          have b1c1 := b1.c1
          have b1c2 := b1.c2
          have b1f0 := b1.f0
          have b1f1 := b1.f1
          have b1f2 := b1.f2
          have b1l := b1.lt
          have b2c0 := b2.c0
          have b2c1 := b2.c1
          have b2c2 := b2.c2
          have b2f0 := b2.f0
          have b2f1 := b2.f1
          have b2f2 := b2.f2
          have b2l := b2.lt
          go_wp2_with fail
          clear b1c0 b1f0 b1c1 b1f1 b1c2 b1f2 b1l b2c0 b2f0 b2c1 b2f1 b2c2 b2f2 b2l
          refine (reduced_all true gr cr w3.heap.size 1 [1] [1] _ (hL.keep ((Chg.refl [] _).alloc _) (by simp)) (one w3) dig_one dig_one noz_one noz_one (by simp) (by simp) (by simp)).mono ?_
          rintro e w4 ⟨y, rfl, hy, c1⟩
          have hy2 : Enc y (sq true _ 1) := hy
          rw [hf.out] at hy2
          replace hy := hy2
          clear hy2
          have HV : Hid (Val y (flo p) (k + 1)) := ⟨hy, HB.out⟩
          clear hy
          replace b1 := (b1.keep ((Chg.refl [] _).alloc (.cells #[.int .u32 1] 43)) (by simp)).keep c1 (by simp)
          replace b2 := (b2.keep ((Chg.refl [] _).alloc (.cells #[.int .u32 1] 43)) (by simp)).keep c1 (by simp)
          replace hch := (hch.alloc (.cells #[.int .u32 1] 43)).then c1
          clear c1
          have b1c0 := b1.c0
          have b1c1 := b1.c1
          have b1c2 := b1.c2
          have b1f0 := b1.f0
          have b1f1 := b1.f1
          have b1f2 := b1.f2
          have b1l := b1.lt
          have b2c0 := b2.c0
          have b2c1 := b2.c1
          have b2c2 := b2.c2
          have b2f0 := b2.f0
          have b2f1 := b2.f1
          have b2f2 := b2.f2
          have b2l := b2.lt
          go_wp2_with fail
          have S := b2.store (.bool y.neg) (.string y.num) (.string y.den)
          exact bodyPost_ret (v := .agg #[.bool y.neg, .string y.num, .string y.den]) (by simp [results, Tryz.results43, go_sem, S.c0, S.c1, S.c2]) rfl ⟨y, rfl, HV.out, hch.store3 (.inr (by omega)) _ _ _⟩
      · rename_i gq cq hQ
        cases zb
        · have ng : ¬ p.num < 0 := by have := HNG.out; simpa using this
          have HN := Lib.hid ng
          clear ng
          have hf : Hid (sq false (lv 4294967296 Q) 1 = flo p) := by show _ = _; rw [VQ.out]; exact flo_pos HN.out
          have b1c0 := b1.c0
          have b1c1 := b1.c1
          have b1c2 := b1.c2
          have b1f0 := b1.f0
          have b1f1 := b1.f1
          have b1f2 := b1.f2
          have b1l := b1.lt
          have b2c0 := b2.c0
          have b2c1 := b2.c1
          have b2c2 := b2.c2
          have b2f0 := b2.f0
          have b2f1 := b2.f1
          have b2f2 := b2.f2
          have b2l := b2.lt
          go_wp2_with fail
          clear b1c0 b1f0 b1c1 b1f1 b1c2 b1f2 b1l b2c0 b2f0 b2c1 b2f1 b2c2 b2f2 b2l
          refine (reduced_all false gq cq w1.heap.size 1 Q [1] _ (hQ.keep ((Chg.refl [] _).alloc _) (by simp)) (one w1) dQ dig_one nQ noz_one (by omega) (by simp) (by simp)).mono ?_
          rintro e w3 ⟨y, rfl, hy, c1⟩
          have e1 : lv 4294967296 [1] = 1 := rfl
          rw [e1, hf.out] at hy
          have HV : Hid (Val y (flo p) (k + 1)) := ⟨hy, HB.out⟩
          clear hy
          replace b1 := (b1.keep ((Chg.refl [] _).alloc (.cells #[.int .u32 1] 43)) (by simp)).keep c1 (by simp)
          replace b2 := (b2.keep ((Chg.refl [] _).alloc (.cells #[.int .u32 1] 43)) (by simp)).keep c1 (by simp)
          replace hch := (hch.alloc (.cells #[.int .u32 1] 43)).then c1
          clear c1
          have b1c0 := b1.c0
          have b1c1 := b1.c1
          have b1c2 := b1.c2
          have b1f0 := b1.f0
          have b1f1 := b1.f1
          have b1f2 := b1.f2
          have b1l := b1.lt
          have b2c0 := b2.c0
          have b2c1 := b2.c1
          have b2c2 := b2.c2
          have b2f0 := b2.f0
          have b2f1 := b2.f1
          have b2f2 := b2.f2
          have b2l := b2.lt
          go_wp2_with fail
          have S := b2.store (.bool y.neg) (.string y.num) (.string y.den)
          exact bodyPost_ret (v := .agg #[.bool y.neg, .string y.num, .string y.den]) (by simp [results, Tryz.results43, go_sem, S.c0, S.c1, S.c2]) rfl ⟨y, rfl, HV.out, hch.store3 (.inr (by omega)) _ _ _⟩
        · have ng : p.num < 0 := by have := HNG.out; simpa using this
          have HN := Lib.hid ng
          clear ng
          have hf : Hid (sq true (lv 4294967296 Q + 1) 1 = flo p) := by show _ = _; rw [VQ.out]; exact flo_neg H1.out HN.out
          have b1c0 := b1.c0
          have b1c1 := b1.c1
          have b1c2 := b1.c2
          have b1f0 := b1.f0
          have b1f1 := b1.f1
          have b1f2 := b1.f2
          have b1l := b1.lt
          have b2c0 := b2.c0
          have b2c1 := b2.c1
          have b2c2 := b2.c2
          have b2f0 := b2.f0
          have b2f1 := b2.f1
          have b2f2 := b2.f2
          have b2l := b2.lt
          go_wp2_with fail
          clear b1c0 b1f0 b1c1 b1f1 b1c2 b1f2 b1l b2c0 b2f0 b2c1 b2f1 b2c2 b2f2 b2l
          refine (plus_one gq cq w1.heap.size 1 Q _ (hQ.keep ((Chg.refl [] _).alloc _) (by simp)) (one w1) dQ nQ (by omega)).mono ?_
          rintro e w3 ⟨gr, cr, L, rfl, hL, dL, nL, vL, lL, c1⟩
          rw [← vL] at hf
          clear vL
          replace b1 := (b1.keep ((Chg.refl [] _).alloc (.cells #[.int .u32 1] 43)) (by simp)).keep c1 (by simp)
          replace b2 := (b2.keep ((Chg.refl [] _).alloc (.cells #[.int .u32 1] 43)) (by simp)).keep c1 (by simp)
          replace hch := (hch.alloc (.cells #[.int .u32 1] 43)).then c1
          clear c1
          have b1c0 := b1.c0
          have b1c1 := b1.c1
          have b1c2 := b1.c2
          have b1f0 := b1.f0
          have b1f1 := b1.f1
          have b1f2 := b1.f2
          have b1l := b1.lt
          have b2c0 := b2.c0
          have b2c1 := b2.c1
          have b2c2 := b2.c2
          have b2f0 := b2.f0
          have b2f1 := b2.f1
          have b2f2 := b2.f2
          have b2l := b2.lt
          go_wp2_with fail
          clear b1c0 b1f0 b1c1 b1f1 b1c2 b1f2 b1l b2c0 b2f0 b2c1 b2f1 b2c2 b2f2 b2l
          refine (reduced_all true gr cr w3.heap.size 1 L [1] _ (hL.keep ((Chg.refl [] _).alloc _) (by simp)) (one w3) dL dig_one nL noz_one (by omega) (by simp) (by simp)).mono ?_
          rintro e w4 ⟨y, rfl, hy, c1⟩
          have hy2 : Enc y (sq true _ 1) := hy
          rw [hf.out] at hy2
          replace hy := hy2
          clear hy2
          have HV : Hid (Val y (flo p) (k + 1)) := ⟨hy, HB.out⟩
          clear hy
          replace b1 := (b1.keep ((Chg.refl [] _).alloc (.cells #[.int .u32 1] 43)) (by simp)).keep c1 (by simp)
          replace b2 := (b2.keep ((Chg.refl [] _).alloc (.cells #[.int .u32 1] 43)) (by simp)).keep c1 (by simp)
          replace hch := (hch.alloc (.cells #[.int .u32 1] 43)).then c1
          clear c1
          have b1c0 := b1.c0
          have b1c1 := b1.c1
          have b1c2 := b1.c2
          have b1f0 := b1.f0
          have b1f1 := b1.f1
          have b1f2 := b1.f2
          have b1l := b1.lt
          have b2c0 := b2.c0
          have b2c1 := b2.c1
          have b2c2 := b2.c2
          have b2f0 := b2.f0
          have b2f1 := b2.f1
          have b2f2 := b2.f2
          have b2l := b2.lt
          go_wp2_with fail
          have S := b2.store (.bool y.neg) (.string y.num) (.string y.den)
          exact bodyPost_ret (v := .agg #[.bool y.neg, .string y.num, .string y.den]) (by simp [results, Tryz.results43, go_sem, S.c0, S.c1, S.c2]) rfl ⟨y, rfl, HV.out, hch.store3 (.inr (by omega)) _ _ _⟩

end Go.Proofs.YtcliibhooeffdaaGreatDoor
