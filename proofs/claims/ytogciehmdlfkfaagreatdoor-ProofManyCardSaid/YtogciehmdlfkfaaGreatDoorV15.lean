/-
  The reference: Format.
-/
import Derived.Test.YtogciehmdlfkfaaGreatDoorGQ
import Derived.Test.YtogciehmdlfkfaaGreatDoorV14
import Derived.Test.YtogciehmdlfkfaaGreatDoorGI
namespace Go.Proofs.YtogciehmdlfkfaaGreatDoor
open Go.RowKit Nd
theorem Val.eden2 {x : Q3} {q : Rat} {k : Nat} (h : Val x q k) : x.den.toList.isEmpty = decide (q.den = 1) := by
  rw [Is_empty h.enc.den]
  have := q.den_nz
  by_cases h1 : q.den = 1 <;> simp [h1, this]
theorem Val.vden {x : Q3} {q : Rat} {k : Nat} (h : Val x q k) (h1 : ¬ q.den = 1) : val x.den = q.den := by
  have := h.enc.den
  rw [if_neg h1] at this
  exact Is_val this

set_option maxRecDepth 20000 in
set_option maxHeartbeats 2000000 in
theorem rFormatN (x : Q3) (p : Rat) (k : Nat) (w : World) (hx : Num x p k) (hk : k ≤ 34359738367) :
    Calls Tryz.prog 49 #[.agg #[.bool x.neg, .string x.num, .string x.den]] w fun e w' => ∃ s : ByteArray, e = .returned (.string s) ∧ s.data.toList = fmtL p ∧ Chg [] w w' := by
  obtain ⟨L, HL⟩ := name_it (fmtL p)
  rw [HL.out]
  have b1 := Blk3.alloc w (.bool x.neg) (.string x.num) (.string x.den) 25
  have hch : Chg [] w (w.alloc (.cells #[.bool x.neg, .string x.num, .string x.den] 25)) := (Chg.refl _ _).alloc _
  go_enter Tryz.func49, Tryz.ntmps49
  go_wp2_with fail
  obtain ⟨w0, HWw0⟩ := name_it ((w).alloc (.cells #[.bool x.neg, .string x.num, .string x.den] 25))
  rw [HWw0.out] at b1 hch ⊢
  refine (rFixN x p k _ hx (by omega)).mono ?_
  rintro e w1 ⟨z, rfl, hz, c1⟩
  replace b1 := b1.keep c1 (by simp)
  replace hch := hch.then c1
  clear c1 hx
  have nz := hz.n1
  have dz := hz.n2
  have hk1 := bd_pos hz.bd
  have BA := Lib.hid hz.bd
  have hde := hz.eden2
  have hng := hz.enc.neg
  have vn := Is_val hz.enc.num
  have hdv := hz.vden
  obtain ⟨zn, zN, zD⟩ := z
  simp only at nz dz hde hng vn hdv ⊢
  have HDE := Lib.hid hde
  have HNG := Lib.hid hng
  have HDV := Lib.hid hdv
  have HVN := Lib.hid vn
  clear hde hng hdv vn hz
  have b1c0 := b1.c0
  have b1c1 := b1.c1
  have b1c2 := b1.c2
  have b1f0 := b1.f0
  have b1f1 := b1.f1
  have b1f2 := b1.f2
  have b1l := b1.lt
  go_wp2_with fail
  clear b1c0 b1f0 b1c1 b1f1 b1c2 b1f2 b1l
  replace b1 := b1.store (.bool zn) (.string zN) (.string zD)
  replace hch := hch.store3 (g := w.heap.size) (.inr (by omega)) (.bool zn) (.string zN) (.string zD)
  obtain ⟨w2, HWw2⟩ := name_it (((w1.setCell ⟨w.heap.size, 0, none⟩ (.bool zn)).setCell ⟨w.heap.size, 1, none⟩ (.string zN)).setCell ⟨w.heap.size, 2, none⟩ (.string zD))
  rw [HWw2.out] at b1 hch ⊢
  refine (natFormat_any zN _ (by omega)).mono ?_
  rintro e w1 ⟨t, rfl, ht, c1⟩
  replace b1 := b1.keep c1 (by simp)
  replace hch := hch.then c1
  clear c1
  rw [HVN.out] at ht
  have zt := dec_size ht BA.out.1 hk1
  have HT := Lib.hid (decL_of ht)
  clear ht
  have hf : Hid (L = (if zn then [45] else []) ++ (decL p.num.natAbs ++ (if p.den = 1 then [] else 47 :: decL p.den))) := by
    show _ = _
    rw [← HL.out, HNG.out]; unfold fmtL; simp
  by_cases h1 : p.den = 1
  · have he := HDE.out
    rw [decide_eq_true h1] at he
    have H1 := Lib.hid h1
    clear h1
    cases zn
    · have b1c0 := b1.c0
      have b1c1 := b1.c1
      have b1c2 := b1.c2
      have b1f0 := b1.f0
      have b1f1 := b1.f1
      have b1f2 := b1.f2
      have b1l := b1.lt
      go_wp2_with fail
      clear b1c0 b1f0 b1c1 b1f1 b1c2 b1f2 b1l
      go_ret
      exact ⟨_, rfl, by rw [hf.out, if_pos H1.out]; simp [HT.out], hch⟩
    · have b1c0 := b1.c0
      have b1c1 := b1.c1
      have b1c2 := b1.c2
      have b1f0 := b1.f0
      have b1f1 := b1.f1
      have b1f2 := b1.f2
      have b1l := b1.lt
      go_wp2_with fail
      clear b1c0 b1f0 b1c1 b1f1 b1c2 b1f2 b1l
      go_ret
      exact ⟨_, rfl, by rw [hf.out, if_pos H1.out]; simp [HT.out], hch⟩
  · have he := HDE.out
    rw [decide_eq_false h1] at he
    have hv := HDV.out h1
    have HV := Lib.hid hv
    clear hv
    have H1 := Lib.hid h1
    clear h1
    cases zn
    · have b1c0 := b1.c0
      have b1c1 := b1.c1
      have b1c2 := b1.c2
      have b1f0 := b1.f0
      have b1f1 := b1.f1
      have b1f2 := b1.f2
      have b1l := b1.lt
      go_wp2_with fail
      clear b1c0 b1f0 b1c1 b1f1 b1c2 b1f2 b1l
      refine (natFormat_any zD _ (by omega)).mono ?_
      rintro e w1 ⟨u, rfl, hu, c1⟩
      replace b1 := b1.keep c1 (by simp)
      replace hch := hch.then c1
      clear c1
      rw [HV.out] at hu
      have zu := dec_size hu BA.out.2 hk1
      have HU := Lib.hid (decL_of hu)
      clear hu
      have b1c0 := b1.c0
      have b1c1 := b1.c1
      have b1c2 := b1.c2
      have b1f0 := b1.f0
      have b1f1 := b1.f1
      have b1f2 := b1.f2
      have b1l := b1.lt
      go_wp2_with fail
      go_ret
      exact ⟨_, rfl, by rw [hf.out, if_neg H1.out]; simp [HT.out, HU.out], hch⟩
    · have b1c0 := b1.c0
      have b1c1 := b1.c1
      have b1c2 := b1.c2
      have b1f0 := b1.f0
      have b1f1 := b1.f1
      have b1f2 := b1.f2
      have b1l := b1.lt
      go_wp2_with fail
      clear b1c0 b1f0 b1c1 b1f1 b1c2 b1f2 b1l
      refine (natFormat_any zD _ (by omega)).mono ?_
      rintro e w1 ⟨u, rfl, hu, c1⟩
      replace b1 := b1.keep c1 (by simp)
      replace hch := hch.then c1
      clear c1
      rw [HV.out] at hu
      have zu := dec_size hu BA.out.2 hk1
      have HU := Lib.hid (decL_of hu)
      clear hu
      have b1c0 := b1.c0
      have b1c1 := b1.c1
      have b1c2 := b1.c2
      have b1f0 := b1.f0
      have b1f1 := b1.f1
      have b1f2 := b1.f2
      have b1l := b1.lt
      go_wp2_with fail
      go_ret
      exact ⟨_, rfl, by rw [hf.out, if_neg H1.out]; simp [HT.out, HU.out], hch⟩

end Go.Proofs.YtogciehmdlfkfaaGreatDoor
