/-
  Walks: divide, Divide.
-/
import Derived.Test.YtjmonodjnljhdaaDoorW9
import Derived.Test.YtjmonodjnljhdaaDoorApp
namespace Go.Proofs.YtjmonodjnljhdaaDoor
open Go.RowKit Nd

/-- What the division of the rows leaves: quotient and remainder. -/
structure DivOut (w w' : World) (gu gv cv : Nat) (U V : List Nat) (qv rv : Value) : Prop where
  out : ∃ (Q R : List Nat) (g c : Nat), Sl w' qv Q ∧ rv = .slice (some ⟨g, 0, none⟩) R.length c ∧ Row 77 .u32 w' g c R ∧ dig 4294967296 Q ∧ dig 4294967296 R ∧ noz R ∧ Q.length ≤ U.length + 1 ∧ R.length ≤ U.length + 1 ∧
    lv 4294967296 Q = lv 4294967296 U / lv 4294967296 V ∧ lv 4294967296 R = lv 4294967296 U % lv 4294967296 V ∧ (g = gu ∨ w.heap.size ≤ g)
  keep : Row 77 .u32 w' gv cv V
  chg : Chg [gu] w w'

theorem lv_small {B : Nat} {U V : List Nat} (hB : 1 < B) (dU : dig B U) (nV : noz V) (h : U.length < V.length) : lv B U < lv B V := by
  have h1 := lv_lt (by omega) U dU
  have h2 := lv_ge (B := B) V nV (by rintro rfl; simp at h)
  have h3 : B ^ U.length ≤ B ^ (V.length - 1) := Nat.pow_le_pow_right (by omega) (by omega)
  omega

set_option maxRecDepth 20000 in
set_option maxHeartbeats 400000 in
theorem divide_short (gu cu gv cv : Nat) (U V : List Nat) (w : World) (hU : Row 77 .u32 w gu cu U) (hV : Row 77 .u32 w gv cv V) (dU : dig 4294967296 U) (nV : noz V) (h : U.length < V.length) :
    Calls Tryd.prog 31 #[.slice (some ⟨gu, 0, none⟩) U.length cu, .slice (some ⟨gv, 0, none⟩) V.length cv] w fun e w' => ∃ qv rv, e = .returned (.tuple #[qv, rv]) ∧ DivOut w w' gu gv cv U V qv rv := by
  have hlt := lv_small (B := 4294967296) (by omega) dU nV h
  have hfit := hU.fits
  have hf2 := hV.fits
  have HLT := Lib.hid hlt
  have hcells := Lib.hid (fun j hj => hU.cell j hj)
  clear hlt
  go_enter Tryd.func31, Tryd.ntmps31
  go_wp2_with fail
  refine (trim_row gu 0 cu U w hfit.1 hfit.2 (fun j hj => by simpa using hcells.out j hj)).mono ?_
  rintro e w' ⟨rfl, rfl⟩
  go_wp2_with fail
  go_ret2
  refine ⟨_, _, rfl, ⟨⟨[], trim U, gu, cu, Sl.nil, by rw [trim_length]; rfl, hU.take _ (tl_le U), dig_nil _, trim_dig dU, trim_noz U, by simp, ?_, ?_, ?_, .inl rfl⟩, hV, Chg.refl _ _⟩⟩
  · rw [trim_length]; have := tl_le U; omega
  · rw [Nat.div_eq_of_lt HLT.out]; rfl
  · rw [lv_trim, Nat.mod_eq_of_lt HLT.out]

set_option maxRecDepth 20000 in
set_option maxHeartbeats 1600000 in
theorem divide_long (gu cu gv cv : Nat) (U V : List Nat) (w : World) (hU : Row 77 .u32 w gu cu U) (hV : Row 77 .u32 w gv cv V) (hne : gv ≠ gu) (dU : dig 4294967296 U) (dV : dig 4294967296 V) (nV : noz V) (hV0 : V ≠ [])
    (lu : U.length ≤ 1099511627775) (h : V.length ≤ U.length) :
    Calls Tryd.prog 31 #[.slice (some ⟨gu, 0, none⟩) U.length cu, .slice (some ⟨gv, 0, none⟩) V.length cv] w fun e w' => ∃ qv rv, e = .returned (.tuple #[qv, rv]) ∧ DivOut w w' gu gv cv U V qv rv := by
  obtain ⟨i0, hi, hz0, hz1, hz2⟩ := info_parts Tryd.info32
  have hm0 : 1 ≤ V.length := by cases V with | nil => exact absurd rfl hV0 | cons => simp
  obtain ⟨m, HM⟩ := name_it V.length
  obtain ⟨n, HN⟩ := name_it U.length
  have DI := fun Q hQ => DivI.start (B := 4294967296) (by omega) dU nV HM.out (by rw [← HM.out]; exact hm0) (by rw [← HM.out]; exact h) Q hQ
  have HDI := Lib.hid DI
  clear DI
  rw [HM.out, HN.out]
  rw [HM.out, HN.out] at h
  rw [HM.out] at hm0
  rw [HN.out] at lu
  obtain ⟨kq, HKQ⟩ := name_it (n + 1 - m)
  have hk1 : kq ≤ n := by have := HKQ.out; omega
  go_enter Tryd.func31, Tryd.ntmps31
  go_wp2_with (at_builtin; refine wpList_append_row _ rfl (.tmp 15) (.tmp 16) 50 rfl 77 i0 .u32 Tryd.underlying50 hi hz0 hz1 (by rw [hz2]; omega) gu cu U n HN.out rfl (hU.keep ((Chg.refl [] w).alloc _) (by simp)) [0] 1 rfl ⟨w.heap.size, 0, none⟩ 1 rfl (cells_alloc w _ 77 .u32 [0] rfl (by simp)) (by omega) ?_)
  intro g1 c1 w1 hU1 hg1 hch1
  have hch2 : Chg [gu] w w1 := ((Chg.refl [gu] w).alloc _).same hch1
  have hV1 := (hV.keep hch2 (by simpa using hne))
  have hg2 : g1 = gu ∨ w.heap.size ≤ g1 := by rcases hg1 with h | h; exact .inl h; exact .inr (by omega)
  have hne1 : gv ≠ g1 := by rcases hg2 with h | h; rw [h]; exact hne; have := hV.lt; omega
  have hg3 : g1 < w1.heap.size := hU1.lt
  clear hU hV hch1 hg1
  go_wp2_with (at_make; refine wpList_make_cap _ rfl (.tmp 22) (.tmp 22) 50 rfl 77 i0 .u32 Tryd.underlying50 hi hz0 hz1 .i64 .i64 _ _ kq kq rfl rfl (by have := HKQ.out; omega) (by have := HKQ.out; omega) (Nat.le_refl _) (by rw [hz2]; omega) (by omega) ?_)
  intro w2 hQ2 hch3
  have hV2 := hV1.keep hch3 (by simp)
  have hU2 := hU1.keep hch3 (by simp)
  have hne2 : gv ≠ w1.heap.size := by have := hV1.lt; omega
  have hne3 : g1 ≠ w1.heap.size := by omega
  have hfr0 : w.heap.size ≤ w1.heap.size := hch2.size
  have hch4 : Chg [gu] w w2 := hch2.then hch3
  obtain ⟨gq, HGQ⟩ := name_it w1.heap.size
  rw [HGQ.out] at hQ2 hne2 hne3 hfr0 ⊢
  clear hV1 hU1 hch3 hch2 hi hz0 hz1 hz2 hg3
  have HST := HDI.out _ rfl
  rw [HN.out, HKQ.out] at HST
  have HST2 := Lib.hid HST
  clear HST
  go_wp2_with fail
  go_loopw [7] (fun iv wr => ∃ (t : Nat) (L Q : List Nat), t ≤ kq ∧ iv = .int .i64 ((t : Int) - 1) ∧ DivI 4294967296 (lv 4294967296 U) V (n + 1) m t L Q ∧
      Row 77 .u32 wr g1 c1 L ∧ Row 77 .u32 wr gv cv V ∧ Row 77 .u32 wr gq kq Q ∧ Chg [gu] w wr)
    (fun iv _ => (intOf iv + 1).toNat)
  case atStart => exact ⟨kq, U ++ [0], List.replicate kq 0, Nat.le_refl _, rfl, HST2.out, hU2, hV2, hQ2, hch4⟩
  case round =>
    obtain ⟨t, L, Q, ht, rfl, hD, hL, hV, hQ, hch⟩ := hrel
    clear hU2 hV2 hQ2 hch4
    by_cases ht0 : 1 ≤ t
    · obtain ⟨i, rfl⟩ : ∃ i, t = i + 1 := ⟨t - 1, by omega⟩
      have hii : ((i + 1 : Nat) : Int) - 1 = (i : Int) := by omega
      rw [hii]
      clear hii ht0
      have hlL : Hid (L.length = n + 1) := hD.lenL
      have hlQ : Hid (Q.length = kq) := by show Q.length = kq; rw [hD.lenQ]; exact HKQ.out
      have hf := hL.fits
      have hc1 : n + 1 ≤ c1 := by rw [← hlL.out]; exact hf.1
      have hc2 := hf.2
      clear hf
      have him : i + m ≤ n := by have := HKQ.out; omega
      have dL := hD.digL
      have hlt := hD.lt (by omega)
      have HD := Lib.hid hD
      clear hD
      go_wp2_with fail
      rw [show i + m + 1 - i = m + 1 by omega]
      refine (divideStep_any g1 i c1 (c1 - i) gv cv m L V wr hL hV hne1 dL dV nV HM.out hm0 (by omega) (by rw [hlL.out]; omega) hlt).mono ?_
      rintro e w3 ⟨q, M, rfl, hq, hqe, hM, hV3, hc3, lM, dM, oM, vM⟩
      have hQ3 := hQ.keep hc3 (by simpa using Ne.symm hne3)
      have hch3 : Chg [gu] w w3 := hch.trans hc3 (fun x hx => by simp at hx; subst hx; rcases hg2 with h | h; exact .inl (by simp [h]); exact .inr h)
      have HST := Lib.hid (HD.out.step (by omega) dV HM.out (by have := HKQ.out; omega) hq hqe lM dM oM vM)
      have hcell := hQ3.cell i (by rw [hlQ.out]; omega)
      have hfr := hQ3.frozen i
      obtain ⟨old, HO⟩ := name_it (Q.getD i 0)
      rw [HO.out] at hcell
      clear hqe lM oM vM hL hV hQ hch hc3 hlt HD
      go_wp2_with fail
      go_roundw
      case rel =>
        exact ⟨i, M, Q.set i q, by omega, rfl, HST.out, hM.other (Ne.symm (Ne.symm hne3)) _, hV3.other hne2 _, hQ3.store _ _, hch3.setCell (.inr hfr0) _⟩
      case measure => simp [intOf]
    · have ht1 : t = 0 := by omega
      subst ht1
      have hlL : Hid (L.length = n + 1) := hD.lenL
      have hlQ : Hid (Q.length = kq) := by show Q.length = kq; rw [hD.lenQ]; exact HKQ.out
      have dL := hD.digL
      have dQ := hD.digQ
      have HDN := Lib.hid (hD.done (by omega))
      have hf := hL.fits
      have hcs := Lib.hid (fun j hj => hL.cell j hj)
      have hl1 : (L.length : Int) = (n : Int) + 1 := by have := hlL.out; omega
      clear hD
      go_wp2_with fail
      rw [← hlL.out]
      refine (trim_row g1 0 c1 L wr hf.1 hf.2 (fun j hj => by simpa using hcs.out j hj)).mono ?_
      rintro e w3 ⟨rfl, rfl⟩
      go_wp2_with fail
      go_ret2
      have hSl : Sl wr (.slice (some ⟨gq, 0, none⟩) Q.length kq) Q := Sl.row _ _ _ hQ
      rw [hlQ.out] at hSl
      have h1 := tl_le L
      rw [hlL.out] at h1
      exact ⟨_, _, rfl, ⟨⟨Q, trim L, g1, c1, hSl, by rw [trim_length]; rfl, hL.take _ (tl_le L), dQ, trim_dig dL, trim_noz L, by rw [hlQ.out, HN.out]; omega, by rw [trim_length, HN.out]; exact h1, HDN.out.1, by rw [lv_trim]; exact HDN.out.2, hg2⟩, hV, hch⟩⟩

theorem divide_any (gu cu gv cv : Nat) (U V : List Nat) (w : World) (hU : Row 77 .u32 w gu cu U) (hV : Row 77 .u32 w gv cv V) (hne : gv ≠ gu) (dU : dig 4294967296 U) (dV : dig 4294967296 V) (nV : noz V) (hV0 : V ≠ [])
    (lu : U.length ≤ 1099511627775) :
    Calls Tryd.prog 31 #[.slice (some ⟨gu, 0, none⟩) U.length cu, .slice (some ⟨gv, 0, none⟩) V.length cv] w fun e w' => ∃ qv rv, e = .returned (.tuple #[qv, rv]) ∧ DivOut w w' gu gv cv U V qv rv := by
  by_cases h : U.length < V.length
  · exact divide_short gu cu gv cv U V w hU hV dU nV h
  · exact divide_long gu cu gv cv U V w hU hV hne dU dV nV hV0 lu (by omega)

theorem lv_nil_iff {B : Nat} {V : List Nat} (hB : 0 < B) (nV : noz V) : V.length = 0 ↔ lv B V = 0 := by
  rw [lv_zero_iff hB V nV]; exact List.length_eq_zero_iff

set_option maxRecDepth 20000 in
set_option maxHeartbeats 400000 in
theorem Divide_zero (a b : ByteArray) (w : World) (hb : b.size ≤ 1099511627776) (h : val b = 0) :
    Calls Tryd.prog 11 #[.string a, .string b] w fun e w' => e = .returned (.tuple #[.string ⟨#[]⟩, .string ⟨#[]⟩, .bool false]) ∧ Chg [] w w' := by
  have H := Lib.hid h; clear h
  go_enter Tryd.func11, Tryd.ntmps11
  go_wp2_with fail
  refine (toLimbs_any b _ hb).mono ?_
  rintro e w1 ⟨gb, cb, V, rfl, hV, hgb, dV, nV, vV, lV, cV⟩
  have h0 : V.length = 0 := (lv_nil_iff (B := 4294967296) (by omega) nV).2 (by rw [vV]; exact H.out)
  rw [h0]
  clear h0 vV lV
  go_wp2_with fail
  go_ret3
  exact ⟨rfl, cV⟩

set_option maxRecDepth 20000 in
set_option maxHeartbeats 400000 in
theorem Divide_any (a b : ByteArray) (w : World) (ha : a.size ≤ 1099511627776) (hb : b.size ≤ 1099511627776) (h : val b ≠ 0) :
    Calls Tryd.prog 11 #[.string a, .string b] w fun e w' => ∃ q r, e = .returned (.tuple #[.string q, .string r, .bool true]) ∧ Is q (val a / val b) ∧ Is r (val a % val b) ∧ Chg [] w w' := by
  have H := Lib.hid h; clear h
  go_enter Tryd.func11, Tryd.ntmps11
  go_wp2_with fail
  refine (toLimbs_any b _ hb).mono ?_
  rintro e w1 ⟨gv, cv, V, rfl, hV, hgb, dV, nV, vV, lV, cV⟩
  have h0 : V.length ≠ 0 := fun h0 => H.out (by rw [← vV]; exact (lv_nil_iff (B := 4294967296) (by omega) nV).1 h0)
  have hV0 : V ≠ [] := by rintro rfl; exact h0 rfl
  have h1 : 0 < V.length := by omega
  have VV := Lib.hid vV
  have hb0 : ((V.length : Int) == 0) = false := by rw [beq_eq_false_iff_ne]; omega
  clear h0 vV
  go_wp2_with fail
  refine (toLimbs_any a _ ha).mono ?_
  rintro e w2 ⟨gu, cu, U, rfl, hU, hgu, dU, nU, vU, lU, cU⟩
  have UU := Lib.hid vU
  clear vU
  have hne : gv ≠ gu := by have := hV.lt; omega
  have hV2 := hV.keep cU (by simp)
  have hlu : U.length ≤ 1099511627775 := by omega
  have hfr : w.heap.size ≤ gu := Nat.le_trans cV.size hgu
  have hch : Chg [] w w2 := cV.then cU
  clear hV cU cV lU lV hgu hgb
  go_wp2_with fail
  refine (divide_any gu cu gv cv U V w2 hU hV2 hne dU dV nV hV0 hlu).mono ?_
  rintro e w3 ⟨qv, rv, rfl, ⟨Q, R, g, c, hQ, rfl, hR, dQ, dR, nR, lQ, lR, vQ, vR, _⟩, hV3, hc3⟩
  rw [UU.out, VV.out] at vQ vR
  have VQ := Lib.hid vQ
  have VR := Lib.hid vR
  have hch2 : Chg [] w w3 := hch.fresh hc3 hfr
  clear vQ vR hch hc3 hU hV2 hV3 hb0
  go_wp2_with fail
  refine (fromLimbs_any w3 hQ dQ (by omega)).mono ?_
  rintro e w4 ⟨q, rfl, hq, c4⟩
  have hR4 := hR.keep c4 (by simp)
  go_wp2_with fail
  refine (fromLimbs_row g c R w4 hR4 dR (by omega)).mono ?_
  rintro e w5 ⟨r, rfl, hr, c5⟩
  go_wp2_with fail
  go_ret3
  rw [VQ.out] at hq
  rw [VR.out] at hr
  exact ⟨q, r, rfl, hq, hr, (hch2.then c4).then c5⟩

end Go.Proofs.YtjmonodjnljhdaaDoor
