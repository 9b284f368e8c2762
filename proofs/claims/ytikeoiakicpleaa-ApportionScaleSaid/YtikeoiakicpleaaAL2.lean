/-
  Of law 4: Scale.
-/
import Derived.Test.YtikeoiakicpleaaAL0
import Derived.Test.YtikeoiakicpleaaALS
import Derived.Test.YtikeoiakicpleaaAL1
namespace Go.Proofs.Ytikeoiakicpleaa
open Go.RowKit Nd

theorem com_scale {xs zs : List Q3} {n : Nat} {N N' : Nat → Nat} {D D' a c : Nat} (h : Com xs n N D) (h' : Com zs n N' D') (hc : 0 < c) (hz : ∀ j, j < n → ratOf (zs.getD j q0) = ratOf (xs.getD j q0) * sq false a c) : ∀ j, j < n → D * c * N' j = a * D' * N j := by
  intro j hj
  have h1 := hz j hj
  rw [h.eq j hj, h'.eq j hj, sq_prod, bne_self_eq_false] at h1
  have h2 := sq_cross h'.pos (Nat.mul_pos h.pos hc) h1
  rw [Nat.mul_comm (D * c), h2]
  ac_rfl
/-- The list times a number. -/
structure Tms (xs zs : List Q3) (q : Rat) (i : Nat) : Prop where
  len : zs.length = i
  ok : ∀ x ∈ zs, fits x 20
  eq : ∀ j, j < i → ratOf (zs.getD j q0) = ratOf (xs.getD j q0) * q
theorem Tms.snoc {xs zs : List Q3} {q : Rat} {i : Nat} (h : Tms xs zs q i) {z : Q3} (h1 : fits z 20) (h2 : ratOf z = ratOf (xs.getD i q0) * q) : Tms xs (zs ++ [z]) q (i + 1) :=
  ⟨by rw [List.length_append, h.len]; rfl, fun x hx => by
    rcases List.mem_append.1 hx with hx | hx
    · exact h.ok x hx
    · rw [List.mem_singleton.1 hx]; exact h1, fun j hj => by
    have hl := h.len
    by_cases e : j < i
    · rw [← h.eq j e]
      simp [List.getD_eq_getElem?_getD, List.getElem?_append, hl, e]
    · obtain rfl : j = i := by omega
      rw [← h2]
      simp [List.getD_eq_getElem?_getD, hl]⟩

set_option maxRecDepth 20000 in
set_option maxHeartbeats 8000000 in
theorem lascale_any (t : Int) (L : List Int) (b : Int) (l : Nat) (A : Option Addr) (cap : Nat) (w : World) (ht : 0 ≤ t ∧ t ≤ 4294967295) (hb : 0 ≤ b ∧ b ≤ 65535) (hl : L.length = l) (hl2 : l ≤ 9223372036854775807) (hL : ∀ x, x ∈ L → 0 ≤ x ∧ x ≤ 65535) (hx : RdW w A L) :
    Calls Try.prog 8 #[.int .u32 t, .slice A l cap, .int .u16 b] w fun e w' => e = .returned (.bool true) ∧ Chg [] w w' := by
  have hch : Chg [] w w := Chg.refl _ _
  obtain ⟨p, HP⟩ := name_it (b % 50)
  obtain ⟨b5, HB5⟩ := name_it (b / 50)
  have hb5 : 0 ≤ b5 ∧ b5 ≤ 65535 := by rw [← HB5.out]; omega
  obtain ⟨q, HQ⟩ := name_it (b5 % 50)
  have f1 : b.tmod 50 = p := by rw [Int.tmod_eq_emod_of_nonneg hb.1]; exact HP.out
  have f2 : IntKind.u16.wrap (b.tdiv 50) = b5 := by rw [u16_div hb.1 hb.2 (by omega), HB5.out]
  have f3 : b5.tmod 50 = q := by rw [Int.tmod_eq_emod_of_nonneg hb5.1]; exact HQ.out
  have hp : 0 ≤ p ∧ p < 50 := by rw [← HP.out]; omega
  have hq : 0 ≤ q ∧ q < 50 := by rw [← HQ.out]; omega
  have f4 : IntKind.i64.wrap t = t := by rw [IntKind.wrap_i64]; omega
  have f5 : IntKind.i64.wrap p = p := by rw [IntKind.wrap_i64]; omega
  have f6 : IntKind.i64.wrap q = q := by rw [IntKind.wrap_i64]; omega
  have f7 : IntKind.i64.wrap (1 + p) = 1 + p := by rw [IntKind.wrap_i64]; omega
  have f8 : IntKind.i64.wrap (1 + q) = 1 + q := by rw [IntKind.wrap_i64]; omega
  go_enter Try.func8, Try.ntmps8
  go_wp2_with fail
  refine (amounts_any L l A cap w hl hl2 hL hx).mono ?_
  rintro e w1 ⟨v, xs, rfl, hown, hw, _, c1⟩
  have HW := Lib.hid hw
  obtain ⟨n, HNN⟩ := name_it (min 12 l)
  rw [HNN.out] at HW
  have hn12 : n ≤ 12 := by have := HNN.out; omega
  replace hch := hch.then c1
  clear c1 hw hx hL hl hl2 HNN
  go_wp2_with fail
  refine (ratio_any (1 + p) (1 + q) _ (by omega) (by omega) (by omega) (by omega)).mono ?_
  rintro e w2 ⟨zf, rfl, hz, c1⟩
  have hzr := hz.num.rat
  rw [fsg_pos (by omega) (by omega)] at hzr
  have HZF := Lib.hid hz.num.fit
  obtain ⟨fa, HFA⟩ := name_it (1 + p).natAbs
  obtain ⟨fc, HFC⟩ := name_it (1 + q).natAbs
  rw [HFA.out, HFC.out] at hzr
  have HZR := Lib.hid hzr
  have HFA0 : Hid (0 < fa ∧ 0 < fc) := Lib.hid ⟨by have := HFA.out; omega, by have := HFC.out; omega⟩
  have HPOS : Hid (0 ≤ sq false fa fc) := Lib.hid (sq_ge_zero (by have := HFA0.out.2; omega))
  replace hch := hch.then c1
  replace hown := hown.keep0 c1
  have c2 : Chg [] w2 (w2.alloc (.cells #[.bool zf.neg, .string zf.num, .string zf.den] 38)) := (Chg.refl _ _).alloc _
  have b8 := Blk3.alloc w2 (.bool zf.neg) (.string zf.num) (.string zf.den) 38
  replace hch := hch.then c2
  replace hown := hown.keep0 c2
  obtain ⟨A2, cap2, rfl, hcl, hcl2, hrd⟩ := hown.rds
  have hxl := HW.out.len
  rw [hxl] at hcl ⊢
  clear c1 c2 hz hzr HFA HFC hown f1 f2 f3 f5 f6 f7 f8 HP HQ HB5 hb hb5 hp hq
  go_wp2_with fail
  obtain ⟨w3, HW3⟩ := name_it (w2.alloc (.cells #[.bool zf.neg, .string zf.num, .string zf.den] 38))
  obtain ⟨g8, G8⟩ := name_it w2.heap.size
  rw [HW3.out] at b8 hrd hch ⊢
  rw [G8.out] at b8 ⊢
  clear HW3 G8
  go_loopw [9, 30] (fun rv iv wx => ∃ (i : Nat) (zs : List Q3), i ≤ n ∧ iv = .int .i64 i ∧ Own3 wx rv zs ∧ Tms xs zs (sq false fa fc) i ∧ (∀ x, x ∈ rv.ownBlock.toList → w3.heap.size ≤ x) ∧ Chg [] w3 wx) (fun _ iv _ => n - (intOf iv).toNat)
  case atStart => exact ⟨0, [], Nat.zero_le _, rfl, Own3.nil _, ⟨rfl, fun x hx => (by cases hx), fun j hj => absurd hj (by omega)⟩, by simp [Value.ownBlock], Chg.refl _ _⟩
  case round =>
    obtain ⟨i, zs, hi, rfl, hzo, htm, hzb, hc1⟩ := hrel
    have HTM := Lib.hid htm
    have HZB := Lib.hid hzb
    have hzl := htm.len
    replace hrd := hrd.keep0 hc1
    clear htm hzb
    by_cases hlt : i < n
    · replace b8 := b8.keep0 hc1
      have hsz1 := hc1.size
      obtain ⟨gx, ox, rfl, hgl⟩ := hrd.form (by rw [hxl]; omega)
      obtain ⟨_, a1, a2, a3⟩ := hrd.at_ (j := i) (by rw [hxl]; exact hlt)
      have hxf := HW.out.ok (xs.getD i q0) (mem_getD (by rw [hxl]; exact hlt))
      obtain ⟨x, HXV⟩ := name_it (xs.getD i q0)
      rw [HXV.out] at a1 a2 a3 hxf
      have HXF := Lib.hid hxf
      have k1 : (0 : Int) ≤ (i : Int) := by omega
      have k2 : (i : Int) < (n : Int) := by omega
      have b11 := Blk3.alloc wr (.bool x.neg) (.string x.num) (.string x.den) 38
      have c2 : Chg [] wr (wr.alloc (.cells #[.bool x.neg, .string x.num, .string x.den] 38)) := (Chg.refl _ _).alloc _
      replace b8 := b8.keep0 c2
      have O1 := hzo.keep0 c2
      have hc2 := hc1.then c2
      clear hxf hrd hzo c2
      have b8c0 := b8.c0
      have b8c1 := b8.c1
      have b8c2 := b8.c2
      have b8f0 := b8.f0
      have b8f1 := b8.f1
      have b8f2 := b8.f2
      have b8l := b8.lt
      have b11c0 := b11.c0
      have b11c1 := b11.c1
      have b11c2 := b11.c2
      have b11f0 := b11.f0
      have b11f1 := b11.f1
      have b11f2 := b11.f2
      have b11l := b11.lt
      go_wp2_with fail
      clear b8c0 b8c1 b8c2 b8f0 b8f1 b8f2 b8l b11c0 b11c1 b11c2 b11f0 b11f1 b11f2 b11l
      refine (Multiply_any x zf 8 _ HXF.out HZF.out (by omega) (by omega)).mono ?_
      rintro e w5 ⟨z, rfl, hz, c5⟩
      have hzf : fits z 20 := hz.fits (((HXF.out.bd (by omega)).mul (HZF.out.bd (by omega))).mono (by omega))
      have hzr : ratOf z = ratOf (xs.getD i q0) * sq false fa fc := by rw [hz.rat, HZR.out, HXV.out]
      have HT5 := Lib.hid (HTM.out.snoc hzf hzr)
      have O2 := (O1.keep0 c5).keep0 ((Chg.refl [] _).alloc (.cells #[.bool z.neg, .string z.num, .string z.den] 38))
      have HCH := Lib.hid ((hc2.then c5).alloc (.cells #[.bool z.neg, .string z.num, .string z.den] 38))
      have src := rds_one w5 z
      clear hz hzf hzr c5 O1 hc1 hc2 a1 a2 a3 b8 b11
      go_wp2_with (at_builtin; refine wpList_append3 _ rfl (.tmp 34) (.tmp 38) rfl _ zs rfl O2 _ 1 1 [z] rfl rfl src (by rw [hzl]; simp; omega) ?_)
      intro v5 w6 own5 cv5 hv5
      have HZB5 : Hid (∀ x, x ∈ v5.ownBlock.toList → w3.heap.size ≤ x) := Lib.hid fun x hx => by
        rcases hv5 with h5 | h5
        · rw [h5] at hx; exact HZB.out x hx
        · rw [h5] at hx; have h7 := HCH.out.size; simp at hx h7; omega
      have hc5 := Lib.hid (HCH.out.trans cv5 (fun x hx => .inr (HZB.out x hx)))
      clear hv5 cv5
      go_wp2_with fail
      go_roundw
      case rel => exact ⟨i + 1, _, by omega, by go_num, own5, HT5.out, HZB5.out, hc5.out⟩
      case measure => simp [intOf]; omega
    · obtain rfl : i = n := by omega
      clear b8
      obtain ⟨A3, cap3, rfl, hcl3, hcl4, hrd3⟩ := hzo.rds
      rw [hzl] at hcl3 ⊢
      have ck1 : chkA xs = 0 := chkA_pos (by omega) HW.out.nn
      have ck2 : chkA zs = 0 := chkA_pos (by omega) (fun y hy => by
        obtain ⟨j, hj, rfl⟩ := List.getElem_of_mem hy
        have e1 := HTM.out.eq j (by omega)
        rw [List.getD_eq_getElem?_getD, List.getElem?_eq_getElem hj, Option.getD_some] at e1
        rw [e1]
        exact Rat.mul_nonneg (HW.out.nn _ (mem_getD (by omega))) HPOS.out)
      have CK1 := Lib.hid ck1
      have CK2 := Lib.hid ck2
      have S1 := Lib.hid (fun w h => split_any t xs i 8 A2 cap2 w ⟨by omega, by omega⟩ hxl (by omega) (by omega) (by omega) HW.out.ok h)
      have S2 := Lib.hid (fun w h => split_any t zs i 20 A3 cap3 w ⟨by omega, by omega⟩ hzl (by omega) (by omega) (by omega) HTM.out.ok h)
      replace hch := hch.then hc1
      clear ck1 ck2 hzo hc1 HZF
      go_wp2_with fail
      refine (S1.out _ hrd).mono ?_
      intro e w5 hp1
      obtain ⟨N, D, hcm1, hn1, hg1⟩ := hp1.com CK1.out ht.1
      have c5 := hp1.ch
      have hrd5 := hrd3.keep0 c5
      replace hch := hch.then c5
      have HCM := Lib.hid hcm1
      clear hp1 hcm1 hrd hrd3
      by_cases h0 : apS N i = 0
      · obtain rfl := hn1 h0
        clear hg1 hn1
        go_wp2_with fail
        refine (S2.out _ hrd5).mono ?_
        intro e w6 hp2
        obtain ⟨N', D', hcm2, hn2, hg2⟩ := hp2.com CK2.out ht.1
        have hx := com_scale HCM.out hcm2 HFA0.out.2 HTM.out.eq
        obtain rfl := hn2 ((ap_zero (Nat.mul_pos HCM.out.pos HFA0.out.2) (Nat.mul_pos HFA0.out.1 hcm2.pos) hx).1 h0)
        have c6 := hp2.ch
        replace hch := hch.then c6
        clear hp2 hcm2 hn2 hg2 hx
        go_wp2_with fail
        refine (awake4_any _).mono ?_
        rintro e w7 ⟨rfl, c7⟩
        replace hch := hch.then c7
        clear c7
        go_wp2_with fail
        refine (same_nil none none 0 0 _).mono ?_
        rintro e w8 ⟨rfl, c8⟩
        replace hch := hch.then c8
        clear c8
        go_wp2_with fail
        go_ret
        exact ⟨rfl, hch⟩
      · obtain ⟨h5, rfl, hh5, hf5⟩ := hg1 h0
        clear hg1 hn1
        go_wp2_with fail
        refine (S2.out _ hrd5).mono ?_
        intro e w6 hp2
        obtain ⟨N', D', hcm2, hn2, hg2⟩ := hp2.com CK2.out ht.1
        have hx := com_scale HCM.out hcm2 HFA0.out.2 HTM.out.eq
        have hz0 := ap_zero (Nat.mul_pos HCM.out.pos HFA0.out.2) (Nat.mul_pos HFA0.out.1 hcm2.pos) hx
        obtain ⟨h6, rfl, hh6, hf6⟩ := hg2 (fun h => h0 (hz0.2 h))
        have c6 := hp2.ch
        have HF5 := Lib.hid (hf5.keep0 c6)
        have HF6 : Hid (Fb w6 h6 i (fun j => .int .i64 ((resA (fun k => t.toNat * N k) (apS N i) i j : Nat) : Int))) := Lib.hid (hf6.congr fun j hj => by
          rw [ap_same (t := t.toNat) (Nat.mul_pos HCM.out.pos HFA0.out.2) (Nat.mul_pos HFA0.out.1 hcm2.pos) hx h0 hj])
        replace hch := hch.then c6
        clear hp2 hcm2 hn2 hg2 hx hz0 hf5 hf6
        go_wp2_with fail
        refine (awake4_any _).mono ?_
        rintro e w7 ⟨rfl, c7⟩
        have HF5b := Lib.hid (HF5.out.keep0 c7)
        have HF6b := Lib.hid (HF6.out.keep0 c7)
        replace hch := hch.then c7
        clear c7
        go_wp2_with fail
        refine (same_any (resA (fun k => t.toNat * N k) (apS N i) i) h5 h6 i i i _ (by omega) HF5b.out HF6b.out).mono ?_
        rintro e w8 ⟨rfl, c8⟩
        replace hch := hch.then c8
        clear c8
        go_wp2_with fail
        go_ret
        exact ⟨rfl, hch⟩
end Go.Proofs.Ytikeoiakicpleaa
