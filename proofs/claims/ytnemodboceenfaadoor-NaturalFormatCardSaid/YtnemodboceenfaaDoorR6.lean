/-
  Walks of the reference: NatSubtract, plus, NatAdd.
-/
import Derived.Test.YtnemodboceenfaaDoorR5
namespace Go.Proofs.YtnemodboceenfaaDoor
open Go.RowKit Nd

set_option maxHeartbeats 400000 in
theorem natSubtract_less (a b : ByteArray) (w : World) (ha : a.size ≤ 1099511627776) (hb : b.size ≤ 1099511627776) (h : val a < val b) :
    Calls Tryd.prog 28 #[.string a, .string b] w fun e w' => e = .returned (.tuple #[.string ⟨#[]⟩, .bool false]) ∧ Chg [] w w' := by
  have ho := Lib.hid (ord_lt h)
  clear h
  go_enter Tryd.func28, Tryd.ntmps28
  go_wp2_with fail
  refine (limbs_any a _ ha).mono ?_
  rintro e w1 ⟨gx, cx, X, rfl, hX, hgx, dX, nX, vX, lX, cX⟩
  have VX := Lib.hid vX
  clear vX
  go_wp2_with fail
  refine (limbs_any b _ hb).mono ?_
  rintro e w2 ⟨gy, cy, Y, rfl, hY, hgy, dY, nY, vY, lY, cY⟩
  have VY := Lib.hid vY
  clear vY
  have hX2 := hX.keep cY (by simp)
  have hch := cX.then cY
  clear hX cX cY
  go_wp2_with fail
  refine (order_any gx cx gy cy X Y w2 hX2 hY dX dY nX nY).mono ?_
  rintro e w3 ⟨rfl, c3⟩
  have hch2 := hch.then c3
  rw [VX.out, VY.out, ho.out]
  clear hch c3 hX2 hY
  go_wp2_with fail
  go_ret2
  exact ⟨rfl, hch2⟩

set_option maxHeartbeats 400000 in
theorem natSubtract_any (a b : ByteArray) (w : World) (ha : a.size ≤ 1099511627776) (hb : b.size ≤ 1099511627776) (h : val b ≤ val a) :
    Calls Tryd.prog 28 #[.string a, .string b] w fun e w' => ∃ s, e = .returned (.tuple #[.string s, .bool true]) ∧ Is s (val a - val b) ∧ Chg [] w w' := by
  have HLE := Lib.hid h; clear h
  obtain ⟨r, HR⟩ := name_it (ord (val a) (val b))
  have hr : 0 ≤ r := by
    rw [← HR.out]; unfold ord; rw [if_neg (by have := HLE.out; omega)]; split <;> omega
  go_enter Tryd.func28, Tryd.ntmps28
  go_wp2_with fail
  refine (limbs_any a _ ha).mono ?_
  rintro e w1 ⟨gx, cx, X, rfl, hX, hgx, dX, nX, vX, lX, cX⟩
  have VX := Lib.hid vX
  clear vX
  go_wp2_with fail
  refine (limbs_any b _ hb).mono ?_
  rintro e w2 ⟨gy, cy, Y, rfl, hY, hgy, dY, nY, vY, lY, cY⟩
  have VY := Lib.hid vY
  clear vY
  have hX2 := hX.keep cY (by simp)
  have hch := cX.then cY
  clear hX cX cY
  go_wp2_with fail
  refine (order_any gx cx gy cy X Y w2 hX2 hY dX dY nX nY).mono ?_
  rintro e w3 ⟨rfl, c3⟩
  have hch2 := hch.then c3
  have hX3 := hX2.keep c3 (by simp)
  have hY3 := hY.keep c3 (by simp)
  rw [VX.out, VY.out, HR.out]
  clear hch c3 hX2 hY
  go_wp2_with fail
  refine (minus_any gx cx gy cy X Y w3 hX3 hY3 dX dY nY (by omega) (by rw [VX.out, VY.out]; exact HLE.out)).mono ?_
  rintro e w4 ⟨g, c, L, rfl, hL, dL, vL, lL, c4⟩
  have VL := Lib.hid vL
  have hch3 := hch2.then c4
  clear vL c4 hch2 hX3 hY3
  go_wp2_with fail
  refine (text_row g c L w4 hL dL (by omega)).mono ?_
  rintro e w5 ⟨s, rfl, hs, c5⟩
  rw [VL.out, VX.out, VY.out] at hs
  go_wp2_with fail
  go_ret2
  exact ⟨s, rfl, hs, hch3.then c5⟩

/-- A + B into a new slice: i digits are done, c is carried. -/
structure PlI (A B : List Nat) (i c : Nat) (O : List Nat) : Prop where
  len : O.length = i
  digs : dig 4294967296 O
  carry : c ≤ 1
  value : lv 4294967296 O + 4294967296 ^ i * c = lv 4294967296 (A.take i) + lv 4294967296 (B.take i)
theorem PlI.step {A B O : List Nat} {i c x y : Nat} (h : PlI A B i c O) (dA : dig 4294967296 A) (dB : dig 4294967296 B) (hx : A.getD i 0 = x) (hy : B.getD i 0 = y) :
    PlI A B (i + 1) ((c + x + y) / 4294967296) (O ++ [(c + x + y) % 4294967296]) := by
  have hx2 : x < 4294967296 := by rw [← hx]; exact dig_getD (by omega) dA i
  have hy2 : y < 4294967296 := by rw [← hy]; exact dig_getD (by omega) dB i
  have hc := h.carry
  refine ⟨by simp [h.len], dig_append h.digs (dig_cons (Nat.mod_lt _ (by omega)) (dig_nil _)), by omega, ?_⟩
  rw [lv_snoc, h.len, lv_take_step, lv_take_step, hx, hy]
  have := add_step 4294967296 i _ c x y ((c + x + y) % 4294967296) ((c + x + y) / 4294967296) _ h.value (by omega)
  omega
theorem PlI.end_ {A B O : List Nat} {i c n : Nat} (h : PlI A B i c O) (dA : dig 4294967296 A) (dB : dig 4294967296 B) (hA : A.length ≤ n) (hB : B.length ≤ n) (hi : n + 1 ≤ i) : c = 0 := by
  have h1 := h.value
  have h2 := lv_lt (B := 4294967296) (by omega) _ (dig_take dA i)
  have h3 := lv_lt (B := 4294967296) (by omega) _ (dig_take dB i)
  have h4 : 4294967296 ^ (A.take i).length ≤ 4294967296 ^ n := Nat.pow_le_pow_right (by omega) (by rw [List.length_take]; omega)
  have h5 : 4294967296 ^ (B.take i).length ≤ 4294967296 ^ n := Nat.pow_le_pow_right (by omega) (by rw [List.length_take]; omega)
  have h6 : 4294967296 ^ (n + 1) ≤ 4294967296 ^ i := Nat.pow_le_pow_right (by omega) hi
  rw [Nat.pow_succ] at h6
  apply Classical.byContradiction
  intro hc
  have : 4294967296 ^ i * 1 ≤ 4294967296 ^ i * c := Nat.mul_le_mul_left _ (by omega)
  omega

/-- The slice that plus fills: nil, or a row of its own. -/
inductive Own (w0 w : World) : Value → List Nat → Prop
  | nil : Own w0 w (.slice none 0 0) []
  | row (g cap : Nat) (xs : List Nat) (h : Row 50 .u32 w g cap xs) (hg : w0.heap.size ≤ g) : Own w0 w (.slice (some ⟨g, 0, none⟩) xs.length cap) xs
theorem Own.sl {w0 w : World} {v : Value} {xs : List Nat} (h : Own w0 w v xs) : Sl w v xs := by
  cases h with
  | nil => exact Sl.nil
  | row g cap _ h _ => exact Sl.row g cap xs h

set_option maxHeartbeats 4000000 in
theorem plus_any (ga ca gb cb : Nat) (A C : List Nat) (w : World) (hA : Row 50 .u32 w ga ca A) (hC : Row 50 .u32 w gb cb C) (dA : dig 4294967296 A) (dC : dig 4294967296 C)
    (la : A.length ≤ 1099511627775) (lc : C.length ≤ 1099511627775) :
    Calls Tryd.prog 49 #[.slice (some ⟨ga, 0, none⟩) A.length ca, .slice (some ⟨gb, 0, none⟩) C.length cb] w fun e w' => ∃ v, e = .returned v ∧ ∃ L,
      Sl w' v L ∧ dig 4294967296 L ∧ lv 4294967296 L = lv 4294967296 A + lv 4294967296 C ∧ L.length ≤ 1099511627776 ∧ Chg [] w w' := by
  obtain ⟨i0, hi, hz0, hz1, hz2⟩ := info_parts Tryd.info32
  obtain ⟨na, HNA⟩ := name_it A.length
  obtain ⟨nc, HNC⟩ := name_it C.length
  obtain ⟨n, HN⟩ := name_it (max na nc)
  have hdis : (∀ g, w.heap.size ≤ g → ga ≠ g) ∧ (∀ g, w.heap.size ≤ g → gb ≠ g) := ⟨fun g h => by have := hA.lt; omega, fun g h => by have := hC.lt; omega⟩
  rw [HNA.out, HNC.out]
  rw [HNA.out] at la
  rw [HNC.out] at lc
  have hna : na ≤ n := by have := HN.out; omega
  have hnc : nc ≤ n := by have := HN.out; omega
  have hn3 : n ≤ 1099511627775 := by have := HN.out; omega
  go_enter Tryd.func49, Tryd.ntmps49
  go_wp2_with fail
  go_loopw [5, 6, 7] (fun ov cv iv wr => ∃ (i c : Nat) (O : List Nat), i ≤ n + 1 ∧ iv = .int .i64 i ∧ cv = .int .u64 c ∧ PlI A C i c O ∧ Own w wr ov O ∧ Row 50 .u32 wr ga ca A ∧ Row 50 .u32 wr gb cb C ∧ Chg [] w wr)
    (fun _ _ iv _ => n + 2 - (intOf iv).toNat)
  case atStart => exact ⟨0, 0, [], Nat.zero_le _, rfl, rfl, ⟨rfl, dig_nil _, by omega, by simp⟩, Own.nil, hA, hC, Chg.refl _ _⟩
  case round =>
    obtain ⟨i, c, O, hile, rfl, rfl, hP, hO, hra, hrb, hchr⟩ := hrel
    clear hA hC
    obtain ⟨x, HX⟩ := name_it (A.getD i 0)
    obtain ⟨y, HY⟩ := name_it (C.getD i 0)
    have hx : x < 4294967296 := by rw [← HX.out]; exact dig_getD (by omega) dA i
    have hy : y < 4294967296 := by rw [← HY.out]; exact dig_getD (by omega) dC i
    have hc := hP.carry
    have HST := Lib.hid (hP.step dA dC HX.out HY.out)
    have hcont : (i < na ∨ i < nc ∨ 0 < c) → i ≤ n := by
      intro h
      apply Classical.byContradiction
      intro hgt
      have h0 := hP.end_ dA dC (by rw [HNA.out]; exact hna) (by rw [HNC.out]; exact hnc) (by omega)
      omega
    have HCO := Lib.hid hcont
    have hOl : O.length = i := hP.len
    have HOL := Lib.hid hOl
    clear hcont hOl
    have hcells := Lib.hid (fun j hj => hra.cell j hj)
    have hcellc := Lib.hid (fun j hj => hrb.cell j hj)
    have fin : ∀ (g' cap' : Nat) (w' : World), Row 50 .u32 w' g' cap' (O ++ [(c + x + y) % 4294967296]) → w.heap.size ≤ g' → Row 50 .u32 w' ga ca A → Row 50 .u32 w' gb cb C → Chg [] w w' → i ≤ n →
        ∃ (i' c' : Nat) (O' : List Nat), i' ≤ n + 1 ∧ Value.int .i64 ((i : Int) + 1) = .int .i64 i' ∧ Value.int .u64 (((c + x + y) / 4294967296 : Nat) : Int) = .int .u64 c' ∧ PlI A C i' c' O' ∧ Own w w' (.slice (some ⟨g', 0, none⟩) (i + 1) cap') O' ∧ Row 50 .u32 w' ga ca A ∧ Row 50 .u32 w' gb cb C ∧ Chg [] w w' := by
      intro g' cap' w' h1 h2 h3 h4 h5 h6
      refine ⟨i + 1, _, _, by omega, by go_num, rfl, HST.out, ?_, h3, h4, h5⟩
      have := Own.row (w0 := w) g' cap' _ h1 h2
      rwa [List.length_append, HOL.out] at this
    have FIN := Lib.hid fin
    have dO := hP.digs
    have VAL : Hid (c = 0 → na ≤ i → nc ≤ i → lv 4294967296 O = lv 4294967296 A + lv 4294967296 C) := by
      intro h0 h1 h2
      have := hP.value
      rw [h0, List.take_of_length_le (by rw [HNA.out]; exact h1), List.take_of_length_le (by rw [HNC.out]; exact h2)] at this
      simpa using this
    have HCZ : Hid (O = [] → c = 0) := fun h => by
      have h1 := hP.value
      have h2 := hP.len
      rw [h] at h1 h2
      rw [← h2] at h1
      simpa using h1
    clear fin hP
    obtain ⟨t, HT⟩ := name_it (c + x + y)
    have ht : t ≤ 8589934591 := by have := HT.out; omega
    rw [HT.out] at FIN
    have ET : Hid ((t : Int) / 4294967296 = ((t / 4294967296 : Nat) : Int)) := by show _ = _; omega
    have HX0 : Hid (na ≤ i → x = 0) := fun h => by rw [← HX.out]; exact getD_ge _ _ (by rw [HNA.out]; exact h)
    have HY0 : Hid (nc ≤ i → y = 0) := fun h => by rw [← HY.out]; exact getD_ge _ _ (by rw [HNC.out]; exact h)
    have hOle : O.length ≤ 1099511627776 := by rw [HOL.out]; omega
    have HOLE := Lib.hid hOle
    clear hOle
    cases hO with
    | nil =>
      have HO2 : Sl wr (.slice none 0 0) [] := Sl.nil
      obtain rfl : i = 0 := HOL.out.symm
      by_cases hca : 0 < na
      · have hin : 0 ≤ n := HCO.out (.inl hca)
        by_cases hcb : 0 < nc
        · have hs : (c : Int) + (x : Int) + (y : Int) = (t : Int) := by have := HT.out; omega
          have h1 : 0 < na := hca
          have h2 : 0 < nc := hcb
          have hcella := hcells.out 0 (by rw [HNA.out]; exact hca)
          rw [HX.out] at hcella
          have hcellb := hcellc.out 0 (by rw [HNC.out]; exact hcb)
          rw [HY.out] at hcellb
          go_wp2_with (at_builtin; refine wpList_append_rownil _ rfl (.tmp 46) (.tmp 49) 51 rfl 50 i0 .u32 Tryd.underlying51 hi hz0 hz1 (by rw [hz2]; omega) rfl [t % 4294967296] (by simp) 1 rfl ⟨wr.heap.size, 0, none⟩ 1 rfl (cells_alloc wr _ 50 .u32 [t % 4294967296] (by simp [vals]) (by simp)) (by omega) ?_)
          intro g' cap' w' hr' hg' hch'
          have hg2 : w.heap.size ≤ g' := by have := hchr.size; omega
          have hra' := (hra.keep ((Chg.refl [] wr).alloc _) (by simp)).keep hch' (by simp)
          have hrb' := (hrb.keep ((Chg.refl [] wr).alloc _) (by simp)).keep hch' (by simp)
          have hch2 : Chg [] w w' := (hchr.alloc _).then hch'
          have hr2 : Row 50 .u32 w' g' cap' ([] ++ [t % 4294967296]) := hr'
          have R := Lib.hid (FIN.out g' cap' w' hr2 hg2 hra' hrb' hch2 hin)
          clear hr' hg' hch' hr2 hg2 hra' hrb' hch2
          go_wp2_with fail
          go_roundw
          case rel => rw [ET.out]; exact R.out
          case measure => simp [intOf]
        · have hs : (c : Int) + (x : Int) = (t : Int) := by have := HT.out; have := HY0.out (by omega); omega
          have hcella := hcells.out 0 (by rw [HNA.out]; exact hca)
          rw [HX.out] at hcella
          go_wp2_with (at_builtin; refine wpList_append_rownil _ rfl (.tmp 46) (.tmp 49) 51 rfl 50 i0 .u32 Tryd.underlying51 hi hz0 hz1 (by rw [hz2]; omega) rfl [t % 4294967296] (by simp) 1 rfl ⟨wr.heap.size, 0, none⟩ 1 rfl (cells_alloc wr _ 50 .u32 [t % 4294967296] (by simp [vals]) (by simp)) (by omega) ?_)
          intro g' cap' w' hr' hg' hch'
          have hg2 : w.heap.size ≤ g' := by have := hchr.size; omega
          have hra' := (hra.keep ((Chg.refl [] wr).alloc _) (by simp)).keep hch' (by simp)
          have hrb' := (hrb.keep ((Chg.refl [] wr).alloc _) (by simp)).keep hch' (by simp)
          have hch2 : Chg [] w w' := (hchr.alloc _).then hch'
          have hr2 : Row 50 .u32 w' g' cap' ([] ++ [t % 4294967296]) := hr'
          have R := Lib.hid (FIN.out g' cap' w' hr2 hg2 hra' hrb' hch2 hin)
          clear hr' hg' hch' hr2 hg2 hra' hrb' hch2
          go_wp2_with fail
          go_roundw
          case rel => rw [ET.out]; exact R.out
          case measure => simp [intOf]
      · by_cases hcb : 0 < nc
        · have hin : 0 ≤ n := HCO.out (.inr (.inl hcb))
          have hs : (c : Int) + (y : Int) = (t : Int) := by have := HT.out; have := HX0.out (by omega); omega
          have hcellb := hcellc.out 0 (by rw [HNC.out]; exact hcb)
          rw [HY.out] at hcellb
          go_wp2_with (at_builtin; refine wpList_append_rownil _ rfl (.tmp 46) (.tmp 49) 51 rfl 50 i0 .u32 Tryd.underlying51 hi hz0 hz1 (by rw [hz2]; omega) rfl [t % 4294967296] (by simp) 1 rfl ⟨wr.heap.size, 0, none⟩ 1 rfl (cells_alloc wr _ 50 .u32 [t % 4294967296] (by simp [vals]) (by simp)) (by omega) ?_)
          intro g' cap' w' hr' hg' hch'
          have hg2 : w.heap.size ≤ g' := by have := hchr.size; omega
          have hra' := (hra.keep ((Chg.refl [] wr).alloc _) (by simp)).keep hch' (by simp)
          have hrb' := (hrb.keep ((Chg.refl [] wr).alloc _) (by simp)).keep hch' (by simp)
          have hch2 : Chg [] w w' := (hchr.alloc _).then hch'
          have hr2 : Row 50 .u32 w' g' cap' ([] ++ [t % 4294967296]) := hr'
          have R := Lib.hid (FIN.out g' cap' w' hr2 hg2 hra' hrb' hch2 hin)
          clear hr' hg' hch' hr2 hg2 hra' hrb' hch2
          go_wp2_with fail
          go_roundw
          case rel => rw [ET.out]; exact R.out
          case measure => simp [intOf]
        · by_cases hc0 : 0 < c
          · exact absurd (HCZ.out rfl) (by omega)
          · have hc1 : c = 0 := by omega
            have hv : Hid (lv 4294967296 [] = lv 4294967296 A + lv 4294967296 C) := VAL.out hc1 (by omega) (by omega)
            have hO2 := HO2
            subst hc1
            go_wp2_with fail
            go_ret
            exact ⟨_, rfl, [], hO2, dO, hv.out, HOLE.out, hchr⟩
    | row g cap _ hro hog =>
      obtain ⟨l, HOL2⟩ := name_it O.length
      have hli : Hid (l = i) := by show l = i; rw [← HOL2.out]; exact HOL.out
      have HO2 : Sl wr (.slice (some ⟨g, 0, none⟩) O.length cap) O := Sl.row _ _ _ hro
      have hnea : ga ≠ g := hdis.1 g hog
      have hneb : gb ≠ g := hdis.2 g hog
      rw [HOL2.out] at HO2 ⊢
      have hlb : l ≤ 1099511627776 := by have := HOLE.out; have := HOL2.out; omega
      rw [show l = i from hli.out] at HO2 HOL2 hlb ⊢
      clear hli
      by_cases hca : i < na
      · have hin : i ≤ n := HCO.out (.inl hca)
        by_cases hcb : i < nc
        · have hs : (c : Int) + (x : Int) + (y : Int) = (t : Int) := by have := HT.out; omega
          have h1 : i < na := hca
          have h2 : i < nc := hcb
          have hcella := hcells.out i (by rw [HNA.out]; exact hca)
          rw [HX.out] at hcella
          have hcellb := hcellc.out i (by rw [HNC.out]; exact hcb)
          rw [HY.out] at hcellb
          go_wp2_with (at_builtin; refine wpList_append_row _ rfl (.tmp 46) (.tmp 49) 51 rfl 50 i0 .u32 Tryd.underlying51 hi hz0 hz1 (by rw [hz2]; omega) g cap O i HOL2.out rfl (hro.keep ((Chg.refl [] wr).alloc _) (by simp)) [t % 4294967296] 1 rfl ⟨wr.heap.size, 0, none⟩ 1 rfl (cells_alloc wr _ 50 .u32 [t % 4294967296] (by simp [vals]) (by simp)) (by omega) ?_)
          intro g' cap' w' hr' hg' hch'
          have hg2 : w.heap.size ≤ g' := by
            rcases hg' with h | h
            · rw [h]; exact hog
            · have := hchr.size; omega
          have hra' := (hra.keep ((Chg.refl [] wr).alloc _) (by simp)).keep hch' (by have := hra.lt; simp; exact fun h => hnea h)
          have hrb' := (hrb.keep ((Chg.refl [] wr).alloc _) (by simp)).keep hch' (by simp; exact fun h => hneb h)
          have hch2 : Chg [] w w' := (hchr.alloc _).fresh hch' hog
          have hr2 : Row 50 .u32 w' g' cap' (O ++ [t % 4294967296]) := hr'
          have R := Lib.hid (FIN.out g' cap' w' hr2 hg2 hra' hrb' hch2 hin)
          clear hr' hg' hch' hr2 hg2 hra' hrb' hch2
          go_wp2_with fail
          go_roundw
          case rel => rw [ET.out]; exact R.out
          case measure => simp [intOf]; omega
        · have hs : (c : Int) + (x : Int) = (t : Int) := by have := HT.out; have := HY0.out (by omega); omega
          have hcella := hcells.out i (by rw [HNA.out]; exact hca)
          rw [HX.out] at hcella
          go_wp2_with (at_builtin; refine wpList_append_row _ rfl (.tmp 46) (.tmp 49) 51 rfl 50 i0 .u32 Tryd.underlying51 hi hz0 hz1 (by rw [hz2]; omega) g cap O i HOL2.out rfl (hro.keep ((Chg.refl [] wr).alloc _) (by simp)) [t % 4294967296] 1 rfl ⟨wr.heap.size, 0, none⟩ 1 rfl (cells_alloc wr _ 50 .u32 [t % 4294967296] (by simp [vals]) (by simp)) (by omega) ?_)
          intro g' cap' w' hr' hg' hch'
          have hg2 : w.heap.size ≤ g' := by
            rcases hg' with h | h
            · rw [h]; exact hog
            · have := hchr.size; omega
          have hra' := (hra.keep ((Chg.refl [] wr).alloc _) (by simp)).keep hch' (by have := hra.lt; simp; exact fun h => hnea h)
          have hrb' := (hrb.keep ((Chg.refl [] wr).alloc _) (by simp)).keep hch' (by simp; exact fun h => hneb h)
          have hch2 : Chg [] w w' := (hchr.alloc _).fresh hch' hog
          have hr2 : Row 50 .u32 w' g' cap' (O ++ [t % 4294967296]) := hr'
          have R := Lib.hid (FIN.out g' cap' w' hr2 hg2 hra' hrb' hch2 hin)
          clear hr' hg' hch' hr2 hg2 hra' hrb' hch2
          go_wp2_with fail
          go_roundw
          case rel => rw [ET.out]; exact R.out
          case measure => simp [intOf]; omega
      · by_cases hcb : i < nc
        · have hin : i ≤ n := HCO.out (.inr (.inl hcb))
          have hs : (c : Int) + (y : Int) = (t : Int) := by have := HT.out; have := HX0.out (by omega); omega
          have hcellb := hcellc.out i (by rw [HNC.out]; exact hcb)
          rw [HY.out] at hcellb
          go_wp2_with (at_builtin; refine wpList_append_row _ rfl (.tmp 46) (.tmp 49) 51 rfl 50 i0 .u32 Tryd.underlying51 hi hz0 hz1 (by rw [hz2]; omega) g cap O i HOL2.out rfl (hro.keep ((Chg.refl [] wr).alloc _) (by simp)) [t % 4294967296] 1 rfl ⟨wr.heap.size, 0, none⟩ 1 rfl (cells_alloc wr _ 50 .u32 [t % 4294967296] (by simp [vals]) (by simp)) (by omega) ?_)
          intro g' cap' w' hr' hg' hch'
          have hg2 : w.heap.size ≤ g' := by
            rcases hg' with h | h
            · rw [h]; exact hog
            · have := hchr.size; omega
          have hra' := (hra.keep ((Chg.refl [] wr).alloc _) (by simp)).keep hch' (by have := hra.lt; simp; exact fun h => hnea h)
          have hrb' := (hrb.keep ((Chg.refl [] wr).alloc _) (by simp)).keep hch' (by simp; exact fun h => hneb h)
          have hch2 : Chg [] w w' := (hchr.alloc _).fresh hch' hog
          have hr2 : Row 50 .u32 w' g' cap' (O ++ [t % 4294967296]) := hr'
          have R := Lib.hid (FIN.out g' cap' w' hr2 hg2 hra' hrb' hch2 hin)
          clear hr' hg' hch' hr2 hg2 hra' hrb' hch2
          go_wp2_with fail
          go_roundw
          case rel => rw [ET.out]; exact R.out
          case measure => simp [intOf]; omega
        · by_cases hc0 : 0 < c
          · have hin : i ≤ n := HCO.out (.inr (.inr hc0))
            have hc1 : c = 1 := by omega
            have ht1 : t = 1 := by have := HT.out; have := HX0.out (by omega); have := HY0.out (by omega); omega
            subst hc1
            subst ht1
            go_wp2_with (at_builtin; refine wpList_append_row _ rfl (.tmp 46) (.tmp 49) 51 rfl 50 i0 .u32 Tryd.underlying51 hi hz0 hz1 (by rw [hz2]; omega) g cap O i HOL2.out rfl (hro.keep ((Chg.refl [] wr).alloc _) (by simp)) [1] 1 rfl ⟨wr.heap.size, 0, none⟩ 1 rfl (cells_alloc wr _ 50 .u32 [1] (by rfl) (by simp)) (by omega) ?_)
            intro g' cap' w' hr' hg' hch'
            have hg2 : w.heap.size ≤ g' := by
              rcases hg' with h | h
              · rw [h]; exact hog
              · have := hchr.size; omega
            have hra' := (hra.keep ((Chg.refl [] wr).alloc _) (by simp)).keep hch' (by have := hra.lt; simp; exact fun h => hnea h)
            have hrb' := (hrb.keep ((Chg.refl [] wr).alloc _) (by simp)).keep hch' (by simp; exact fun h => hneb h)
            have hch2 : Chg [] w w' := (hchr.alloc _).fresh hch' hog
            have hr2 : Row 50 .u32 w' g' cap' (O ++ [1]) := hr'
            have R := Lib.hid (FIN.out g' cap' w' hr2 hg2 hra' hrb' hch2 hin)
            clear hr' hg' hch' hr2 hg2 hra' hrb' hch2
            go_wp2_with fail
            go_roundw
            case rel => exact R.out
            case measure => simp [intOf]; omega
          · have hc1 : c = 0 := by omega
            have hv : Hid (lv 4294967296 O = lv 4294967296 A + lv 4294967296 C) := VAL.out hc1 (by omega) (by omega)
            have hO2 := HO2
            subst hc1
            go_wp2_with fail
            go_ret
            exact ⟨_, rfl, O, hO2, dO, hv.out, HOLE.out, hchr⟩

end Go.Proofs.YtnemodboceenfaaDoor
