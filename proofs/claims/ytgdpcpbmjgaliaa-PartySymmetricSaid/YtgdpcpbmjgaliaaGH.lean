/-
  Several parts put together: R6, R7, R8, R9.
-/
import Derived.Test.YtgdpcpbmjgaliaaGG
/- Part R6. -/

namespace Go.Proofs.Ytgdpcpbmjgaliaa
open Go.RowKit Nd

/-- A + B into a new slice: i digits are done, c is carried. -/
structure PlI (A B : List Nat) (i c : Nat) (O : List Nat) : Prop where
  len : O.length = i
  digs : dig 4294967296 O
  carry : c ≤ 1
  value : lv 4294967296 O + 4294967296 ^ i * c = lv 4294967296 (A.take i) + lv 4294967296 (B.take i)
theorem PlI.step {A B O : List Nat} {i c x y : Nat} (h : PlI A B i c O) (dA : dig 4294967296 A) (dB : dig 4294967296 B) (hx : A.getD i 0 = x) (hy : B.getD i 0 = y) :
    PlI A B (i + 1) ((c + x + y) / 4294967296) (O ++ [(c + x + y) % 4294967296]) := by
  have hx2 : x < 4294967296 := by rw [← hx]; exact dig_getD (by omega) dA i
  have hy2 : y < 4294967296 := by rw [← hy]; exact dig_getD (by omega) dB i
  have hc := h.carry
  refine ⟨by simp [h.len], dig_append h.digs (dig_cons (Nat.mod_lt _ (by omega)) (dig_nil _)), by omega, ?_⟩
  rw [lv_snoc, h.len, lv_take_step, lv_take_step, hx, hy]
  have := add_step 4294967296 i _ c x y ((c + x + y) % 4294967296) ((c + x + y) / 4294967296) _ h.value (by omega)
  omega
theorem PlI.end_ {A B O : List Nat} {i c n : Nat} (h : PlI A B i c O) (dA : dig 4294967296 A) (dB : dig 4294967296 B) (hA : A.length ≤ n) (hB : B.length ≤ n) (hi : n + 1 ≤ i) : c = 0 := by
  have h1 := h.value
  have h2 := lv_lt (B := 4294967296) (by omega) _ (dig_take dA i)
  have h3 := lv_lt (B := 4294967296) (by omega) _ (dig_take dB i)
  have h4 : 4294967296 ^ (A.take i).length ≤ 4294967296 ^ n := Nat.pow_le_pow_right (by omega) (by rw [List.length_take]; omega)
  have h5 : 4294967296 ^ (B.take i).length ≤ 4294967296 ^ n := Nat.pow_le_pow_right (by omega) (by rw [List.length_take]; omega)
  have h6 : 4294967296 ^ (n + 1) ≤ 4294967296 ^ i := Nat.pow_le_pow_right (by omega) hi
  rw [Nat.pow_succ] at h6
  apply Classical.byContradiction
  intro hc
  have : 4294967296 ^ i * 1 ≤ 4294967296 ^ i * c := Nat.mul_le_mul_left _ (by omega)
  omega

/-- The slice that plus fills: nil, or a row of its own. -/
inductive Own (w0 w : World) : Value → List Nat → Prop
  | nil : Own w0 w (.slice none 0 0) []
  | row (g cap : Nat) (xs : List Nat) (h : Row 106 .u32 w g cap xs) (hg : w0.heap.size ≤ g) : Own w0 w (.slice (some ⟨g, 0, none⟩) xs.length cap) xs
theorem Own.sl {w0 w : World} {v : Value} {xs : List Nat} (h : Own w0 w v xs) : Sl w v xs := by
  cases h with
  | nil => exact Sl.nil
  | row g cap _ h _ => exact Sl.row g cap xs h

set_option maxRecDepth 20000 in
set_option maxHeartbeats 4000000 in
theorem plus_any (ga ca gb cb : Nat) (A C : List Nat) (w : World) (hA : Row 106 .u32 w ga ca A) (hC : Row 106 .u32 w gb cb C) (dA : dig 4294967296 A) (dC : dig 4294967296 C)
    (nA : noz A) (nC : noz C) (la : A.length ≤ 1099511627775) (lc : C.length ≤ 1099511627775) :
    Calls Try.prog 76 #[.slice (some ⟨ga, 0, none⟩) A.length ca, .slice (some ⟨gb, 0, none⟩) C.length cb] w fun e w' => ∃ v, e = .returned v ∧ ∃ L,
      Sl w' v L ∧ dig 4294967296 L ∧ noz L ∧ lv 4294967296 L = lv 4294967296 A + lv 4294967296 C ∧ L.length ≤ 1099511627776 ∧ Chg [] w w' := by
  obtain ⟨i0, hi, hz0, hz1, hz2⟩ := info_parts Try.info32
  obtain ⟨na, HNA⟩ := name_it A.length
  obtain ⟨nc, HNC⟩ := name_it C.length
  obtain ⟨n, HN⟩ := name_it (max na nc)
  have hdis : (∀ g, w.heap.size ≤ g → ga ≠ g) ∧ (∀ g, w.heap.size ≤ g → gb ≠ g) := ⟨fun g h => by have := hA.lt; omega, fun g h => by have := hC.lt; omega⟩
  rw [HNA.out, HNC.out]
  rw [HNA.out] at la
  rw [HNC.out] at lc
  have hna : na ≤ n := by have := HN.out; omega
  have hnc : nc ≤ n := by have := HN.out; omega
  have hn3 : n ≤ 1099511627775 := by have := HN.out; omega
  go_enter Try.func76, Try.ntmps76
  go_wp2_with fail
  go_loopw [5, 6, 7] (fun ov cv iv wr => ∃ (i c : Nat) (O : List Nat), i ≤ n + 1 ∧ iv = .int .i64 i ∧ cv = .int .u64 c ∧ PlI A C i c O ∧ Own w wr ov O ∧ Row 106 .u32 wr ga ca A ∧ Row 106 .u32 wr gb cb C ∧ Chg [] w wr ∧ Hid (i ≤ n ∨ 4294967296 ^ n ≤ lv 4294967296 A + lv 4294967296 C))
    (fun _ _ iv _ => n + 2 - (intOf iv).toNat)
  case atStart => exact ⟨0, 0, [], Nat.zero_le _, rfl, rfl, ⟨rfl, dig_nil _, by omega, by simp⟩, Own.nil, hA, hC, Chg.refl _ _, Or.inl (Nat.zero_le _)⟩
  case round =>
    obtain ⟨i, c, O, hile, rfl, rfl, hP, hO, hra, hrb, hchr, HBIG⟩ := hrel
    clear hA hC
    obtain ⟨x, HX⟩ := name_it (A.getD i 0)
    obtain ⟨y, HY⟩ := name_it (C.getD i 0)
    have hx : x < 4294967296 := by rw [← HX.out]; exact dig_getD (by omega) dA i
    have hy : y < 4294967296 := by rw [← HY.out]; exact dig_getD (by omega) dC i
    have hc := hP.carry
    have HST := Lib.hid (hP.step dA dC HX.out HY.out)
    have hcont : (i < na ∨ i < nc ∨ 0 < c) → i ≤ n := by
      intro h
      apply Classical.byContradiction
      intro hgt
      have h0 := hP.end_ dA dC (by rw [HNA.out]; exact hna) (by rw [HNC.out]; exact hnc) (by omega)
      omega
    have HCO := Lib.hid hcont
    have hOl : O.length = i := hP.len
    have HOL := Lib.hid hOl
    have HPV := Lib.hid hP.value
    clear hcont hOl
    have hcells := Lib.hid (fun j hj => hra.cell j hj)
    have hcellc := Lib.hid (fun j hj => hrb.cell j hj)
    have fin : ∀ (g' cap' : Nat) (w' : World), Row 106 .u32 w' g' cap' (O ++ [(c + x + y) % 4294967296]) → w.heap.size ≤ g' → Row 106 .u32 w' ga ca A → Row 106 .u32 w' gb cb C → Chg [] w w' → (i < na ∨ i < nc ∨ 0 < c) →
        ∃ (i' c' : Nat) (O' : List Nat), i' ≤ n + 1 ∧ Value.int .i64 ((i : Int) + 1) = .int .i64 i' ∧ Value.int .u64 (((c + x + y) / 4294967296 : Nat) : Int) = .int .u64 c' ∧ PlI A C i' c' O' ∧ Own w w' (.slice (some ⟨g', 0, none⟩) (i + 1) cap') O' ∧ Row 106 .u32 w' ga ca A ∧ Row 106 .u32 w' gb cb C ∧ Chg [] w w' ∧ Hid (i' ≤ n ∨ 4294967296 ^ n ≤ lv 4294967296 A + lv 4294967296 C) := by
      intro g' cap' w' h1 h2 h3 h4 h5 h6
      have h7 := HCO.out h6
      refine ⟨i + 1, _, _, by omega, by go_num, rfl, HST.out, ?_, h3, h4, h5, ?_⟩
      rotate_left
      · by_cases hin : i < n
        · exact Or.inl (by omega)
        · have hc0 : 0 < c := by have := HN.out; omega
          refine Or.inr ?_
          have hv := HPV.out
          rw [List.take_of_length_le (by rw [HNA.out]; omega), List.take_of_length_le (by rw [HNC.out]; omega)] at hv
          rw [← hv, show i = n by omega]
          have : 4294967296 ^ n * 1 ≤ 4294967296 ^ n * c := Nat.mul_le_mul_left _ hc0
          omega
      have := Own.row (w0 := w) g' cap' _ h1 h2
      rwa [List.length_append, HOL.out] at this
    have FIN := Lib.hid fin
    have dO := hP.digs
    have VAL : Hid (c = 0 → na ≤ i → nc ≤ i → lv 4294967296 O = lv 4294967296 A + lv 4294967296 C) := by
      intro h0 h1 h2
      have := hP.value
      rw [h0, List.take_of_length_le (by rw [HNA.out]; exact h1), List.take_of_length_le (by rw [HNC.out]; exact h2)] at this
      simpa using this
    have HCZ : Hid (O = [] → c = 0) := fun h => by
      have h1 := hP.value
      have h2 := hP.len
      rw [h] at h1 h2
      rw [← h2] at h1
      simpa using h1
    clear fin hP
    obtain ⟨t, HT⟩ := name_it (c + x + y)
    have ht : t ≤ 8589934591 := by have := HT.out; omega
    rw [HT.out] at FIN
    have ET : Hid ((t : Int) / 4294967296 = ((t / 4294967296 : Nat) : Int)) := by show _ = _; omega
    have HX0 : Hid (na ≤ i → x = 0) := fun h => by rw [← HX.out]; exact getD_ge _ _ (by rw [HNA.out]; exact h)
    have HY0 : Hid (nc ≤ i → y = 0) := fun h => by rw [← HY.out]; exact getD_ge _ _ (by rw [HNC.out]; exact h)
    have hOle : O.length ≤ 1099511627776 := by rw [HOL.out]; omega
    have HOLE := Lib.hid hOle
    clear hOle
    cases hO with
    | nil =>
      have HO2 : Sl wr (.slice none 0 0) [] := Sl.nil
      obtain rfl : i = 0 := HOL.out.symm
      by_cases hca : 0 < na
      · have hin : 0 ≤ n := HCO.out (.inl hca)
        have HCX := Lib.hid (show 0 < na ∨ 0 < nc ∨ 0 < c from (.inl hca))
        by_cases hcb : 0 < nc
        · have hs : (c : Int) + (x : Int) + (y : Int) = (t : Int) := by have := HT.out; omega
          have h1 : 0 < na := hca
          have h2 : 0 < nc := hcb
          have hcella := hcells.out 0 (by rw [HNA.out]; exact hca)
          rw [HX.out] at hcella
          have hcellb := hcellc.out 0 (by rw [HNC.out]; exact hcb)
          rw [HY.out] at hcellb
          go_wp2_with (at_builtin; refine wpList_append_rownil _ rfl (.tmp 46) (.tmp 49) 99 rfl 106 i0 .u32 Try.underlying99 hi hz0 hz1 (by rw [hz2]; omega) rfl [t % 4294967296] (by simp) 1 rfl ⟨wr.heap.size, 0, none⟩ 1 rfl (cells_alloc wr _ 106 .u32 [t % 4294967296] (by simp [vals]) (by simp)) (by omega) ?_)
          intro g' cap' w' hr' hg' hch'
          have hg2 : w.heap.size ≤ g' := by have := hchr.size; omega
          have hra' := (hra.keep ((Chg.refl [] wr).alloc _) (by simp)).keep hch' (by simp)
          have hrb' := (hrb.keep ((Chg.refl [] wr).alloc _) (by simp)).keep hch' (by simp)
          have hch2 : Chg [] w w' := (hchr.alloc _).then hch'
          have hr2 : Row 106 .u32 w' g' cap' ([] ++ [t % 4294967296]) := hr'
          have R := Lib.hid (FIN.out g' cap' w' hr2 hg2 hra' hrb' hch2 HCX.out)
          clear hr' hg' hch' hr2 hg2 hra' hrb' hch2
          go_wp2_with fail
          go_roundw
          case rel => rw [ET.out]; exact R.out
          case measure => simp [intOf]
        · have hs : (c : Int) + (x : Int) = (t : Int) := by have := HT.out; have := HY0.out (by omega); omega
          have hcella := hcells.out 0 (by rw [HNA.out]; exact hca)
          rw [HX.out] at hcella
          go_wp2_with (at_builtin; refine wpList_append_rownil _ rfl (.tmp 46) (.tmp 49) 99 rfl 106 i0 .u32 Try.underlying99 hi hz0 hz1 (by rw [hz2]; omega) rfl [t % 4294967296] (by simp) 1 rfl ⟨wr.heap.size, 0, none⟩ 1 rfl (cells_alloc wr _ 106 .u32 [t % 4294967296] (by simp [vals]) (by simp)) (by omega) ?_)
          intro g' cap' w' hr' hg' hch'
          have hg2 : w.heap.size ≤ g' := by have := hchr.size; omega
          have hra' := (hra.keep ((Chg.refl [] wr).alloc _) (by simp)).keep hch' (by simp)
          have hrb' := (hrb.keep ((Chg.refl [] wr).alloc _) (by simp)).keep hch' (by simp)
          have hch2 : Chg [] w w' := (hchr.alloc _).then hch'
          have hr2 : Row 106 .u32 w' g' cap' ([] ++ [t % 4294967296]) := hr'
          have R := Lib.hid (FIN.out g' cap' w' hr2 hg2 hra' hrb' hch2 HCX.out)
          clear hr' hg' hch' hr2 hg2 hra' hrb' hch2
          go_wp2_with fail
          go_roundw
          case rel => rw [ET.out]; exact R.out
          case measure => simp [intOf]
      · by_cases hcb : 0 < nc
        · have hin : 0 ≤ n := HCO.out (.inr (.inl hcb))
          have HCX := Lib.hid (show 0 < na ∨ 0 < nc ∨ 0 < c from (.inr (.inl hcb)))
          have hs : (c : Int) + (y : Int) = (t : Int) := by have := HT.out; have := HX0.out (by omega); omega
          have hcellb := hcellc.out 0 (by rw [HNC.out]; exact hcb)
          rw [HY.out] at hcellb
          go_wp2_with (at_builtin; refine wpList_append_rownil _ rfl (.tmp 46) (.tmp 49) 99 rfl 106 i0 .u32 Try.underlying99 hi hz0 hz1 (by rw [hz2]; omega) rfl [t % 4294967296] (by simp) 1 rfl ⟨wr.heap.size, 0, none⟩ 1 rfl (cells_alloc wr _ 106 .u32 [t % 4294967296] (by simp [vals]) (by simp)) (by omega) ?_)
          intro g' cap' w' hr' hg' hch'
          have hg2 : w.heap.size ≤ g' := by have := hchr.size; omega
          have hra' := (hra.keep ((Chg.refl [] wr).alloc _) (by simp)).keep hch' (by simp)
          have hrb' := (hrb.keep ((Chg.refl [] wr).alloc _) (by simp)).keep hch' (by simp)
          have hch2 : Chg [] w w' := (hchr.alloc _).then hch'
          have hr2 : Row 106 .u32 w' g' cap' ([] ++ [t % 4294967296]) := hr'
          have R := Lib.hid (FIN.out g' cap' w' hr2 hg2 hra' hrb' hch2 HCX.out)
          clear hr' hg' hch' hr2 hg2 hra' hrb' hch2
          go_wp2_with fail
          go_roundw
          case rel => rw [ET.out]; exact R.out
          case measure => simp [intOf]
        · by_cases hc0 : 0 < c
          · exact absurd (HCZ.out rfl) (by omega)
          · have hc1 : c = 0 := by omega
            have hv : Hid (lv 4294967296 [] = lv 4294967296 A + lv 4294967296 C) := VAL.out hc1 (by omega) (by omega)
            have hO2 := HO2
            subst hc1
            go_wp2_with fail
            go_ret
            exact ⟨_, rfl, [], hO2, dO, noz_nil, hv.out, HOLE.out, hchr⟩
    | row g cap _ hro hog =>
      obtain ⟨l, HOL2⟩ := name_it O.length
      have hli : Hid (l = i) := by show l = i; rw [← HOL2.out]; exact HOL.out
      have HO2 : Sl wr (.slice (some ⟨g, 0, none⟩) O.length cap) O := Sl.row _ _ _ hro
      have hnea : ga ≠ g := hdis.1 g hog
      have hneb : gb ≠ g := hdis.2 g hog
      rw [HOL2.out] at HO2 ⊢
      have hlb : l ≤ 1099511627776 := by have := HOLE.out; have := HOL2.out; omega
      rw [show l = i from hli.out] at HO2 HOL2 hlb ⊢
      clear hli
      by_cases hca : i < na
      · have hin : i ≤ n := HCO.out (.inl hca)
        have HCX := Lib.hid (show i < na ∨ i < nc ∨ 0 < c from (.inl hca))
        by_cases hcb : i < nc
        · have hs : (c : Int) + (x : Int) + (y : Int) = (t : Int) := by have := HT.out; omega
          have h1 : i < na := hca
          have h2 : i < nc := hcb
          have hcella := hcells.out i (by rw [HNA.out]; exact hca)
          rw [HX.out] at hcella
          have hcellb := hcellc.out i (by rw [HNC.out]; exact hcb)
          rw [HY.out] at hcellb
          go_wp2_with (at_builtin; refine wpList_append_row _ rfl (.tmp 46) (.tmp 49) 99 rfl 106 i0 .u32 Try.underlying99 hi hz0 hz1 (by rw [hz2]; omega) g cap O i HOL2.out rfl (hro.keep ((Chg.refl [] wr).alloc _) (by simp)) [t % 4294967296] 1 rfl ⟨wr.heap.size, 0, none⟩ 1 rfl (cells_alloc wr _ 106 .u32 [t % 4294967296] (by simp [vals]) (by simp)) (by omega) ?_)
          intro g' cap' w' hr' hg' hch'
          have hg2 : w.heap.size ≤ g' := by
            rcases hg' with h | h
            · rw [h]; exact hog
            · have := hchr.size; omega
          have hra' := (hra.keep ((Chg.refl [] wr).alloc _) (by simp)).keep hch' (by have := hra.lt; simp; exact fun h => hnea h)
          have hrb' := (hrb.keep ((Chg.refl [] wr).alloc _) (by simp)).keep hch' (by simp; exact fun h => hneb h)
          have hch2 : Chg [] w w' := (hchr.alloc _).fresh hch' hog
          have hr2 : Row 106 .u32 w' g' cap' (O ++ [t % 4294967296]) := hr'
          have R := Lib.hid (FIN.out g' cap' w' hr2 hg2 hra' hrb' hch2 HCX.out)
          clear hr' hg' hch' hr2 hg2 hra' hrb' hch2
          go_wp2_with fail
          go_roundw
          case rel => rw [ET.out]; exact R.out
          case measure => simp [intOf]; omega
        · have hs : (c : Int) + (x : Int) = (t : Int) := by have := HT.out; have := HY0.out (by omega); omega
          have hcella := hcells.out i (by rw [HNA.out]; exact hca)
          rw [HX.out] at hcella
          go_wp2_with (at_builtin; refine wpList_append_row _ rfl (.tmp 46) (.tmp 49) 99 rfl 106 i0 .u32 Try.underlying99 hi hz0 hz1 (by rw [hz2]; omega) g cap O i HOL2.out rfl (hro.keep ((Chg.refl [] wr).alloc _) (by simp)) [t % 4294967296] 1 rfl ⟨wr.heap.size, 0, none⟩ 1 rfl (cells_alloc wr _ 106 .u32 [t % 4294967296] (by simp [vals]) (by simp)) (by omega) ?_)
          intro g' cap' w' hr' hg' hch'
          have hg2 : w.heap.size ≤ g' := by
            rcases hg' with h | h
            · rw [h]; exact hog
            · have := hchr.size; omega
          have hra' := (hra.keep ((Chg.refl [] wr).alloc _) (by simp)).keep hch' (by have := hra.lt; simp; exact fun h => hnea h)
          have hrb' := (hrb.keep ((Chg.refl [] wr).alloc _) (by simp)).keep hch' (by simp; exact fun h => hneb h)
          have hch2 : Chg [] w w' := (hchr.alloc _).fresh hch' hog
          have hr2 : Row 106 .u32 w' g' cap' (O ++ [t % 4294967296]) := hr'
          have R := Lib.hid (FIN.out g' cap' w' hr2 hg2 hra' hrb' hch2 HCX.out)
          clear hr' hg' hch' hr2 hg2 hra' hrb' hch2
          go_wp2_with fail
          go_roundw
          case rel => rw [ET.out]; exact R.out
          case measure => simp [intOf]; omega
      · by_cases hcb : i < nc
        · have hin : i ≤ n := HCO.out (.inr (.inl hcb))
          have HCX := Lib.hid (show i < na ∨ i < nc ∨ 0 < c from (.inr (.inl hcb)))
          have hs : (c : Int) + (y : Int) = (t : Int) := by have := HT.out; have := HX0.out (by omega); omega
          have hcellb := hcellc.out i (by rw [HNC.out]; exact hcb)
          rw [HY.out] at hcellb
          go_wp2_with (at_builtin; refine wpList_append_row _ rfl (.tmp 46) (.tmp 49) 99 rfl 106 i0 .u32 Try.underlying99 hi hz0 hz1 (by rw [hz2]; omega) g cap O i HOL2.out rfl (hro.keep ((Chg.refl [] wr).alloc _) (by simp)) [t % 4294967296] 1 rfl ⟨wr.heap.size, 0, none⟩ 1 rfl (cells_alloc wr _ 106 .u32 [t % 4294967296] (by simp [vals]) (by simp)) (by omega) ?_)
          intro g' cap' w' hr' hg' hch'
          have hg2 : w.heap.size ≤ g' := by
            rcases hg' with h | h
            · rw [h]; exact hog
            · have := hchr.size; omega
          have hra' := (hra.keep ((Chg.refl [] wr).alloc _) (by simp)).keep hch' (by have := hra.lt; simp; exact fun h => hnea h)
          have hrb' := (hrb.keep ((Chg.refl [] wr).alloc _) (by simp)).keep hch' (by simp; exact fun h => hneb h)
          have hch2 : Chg [] w w' := (hchr.alloc _).fresh hch' hog
          have hr2 : Row 106 .u32 w' g' cap' (O ++ [t % 4294967296]) := hr'
          have R := Lib.hid (FIN.out g' cap' w' hr2 hg2 hra' hrb' hch2 HCX.out)
          clear hr' hg' hch' hr2 hg2 hra' hrb' hch2
          go_wp2_with fail
          go_roundw
          case rel => rw [ET.out]; exact R.out
          case measure => simp [intOf]; omega
        · by_cases hc0 : 0 < c
          · have hin : i ≤ n := HCO.out (.inr (.inr hc0))
            have HCX := Lib.hid (show i < na ∨ i < nc ∨ 0 < c from (.inr (.inr hc0)))
            have hc1 : c = 1 := by omega
            have ht1 : t = 1 := by have := HT.out; have := HX0.out (by omega); have := HY0.out (by omega); omega
            subst hc1
            subst ht1
            go_wp2_with (at_builtin; refine wpList_append_row _ rfl (.tmp 46) (.tmp 49) 99 rfl 106 i0 .u32 Try.underlying99 hi hz0 hz1 (by rw [hz2]; omega) g cap O i HOL2.out rfl (hro.keep ((Chg.refl [] wr).alloc _) (by simp)) [1] 1 rfl ⟨wr.heap.size, 0, none⟩ 1 rfl (cells_alloc wr _ 106 .u32 [1] (by rfl) (by simp)) (by omega) ?_)
            intro g' cap' w' hr' hg' hch'
            have hg2 : w.heap.size ≤ g' := by
              rcases hg' with h | h
              · rw [h]; exact hog
              · have := hchr.size; omega
            have hra' := (hra.keep ((Chg.refl [] wr).alloc _) (by simp)).keep hch' (by have := hra.lt; simp; exact fun h => hnea h)
            have hrb' := (hrb.keep ((Chg.refl [] wr).alloc _) (by simp)).keep hch' (by simp; exact fun h => hneb h)
            have hch2 : Chg [] w w' := (hchr.alloc _).fresh hch' hog
            have hr2 : Row 106 .u32 w' g' cap' (O ++ [1]) := hr'
            have R := Lib.hid (FIN.out g' cap' w' hr2 hg2 hra' hrb' hch2 HCX.out)
            clear hr' hg' hch' hr2 hg2 hra' hrb' hch2
            go_wp2_with fail
            go_roundw
            case rel => exact R.out
            case measure => simp [intOf]; omega
          · have hc1 : c = 0 := by omega
            have hv : Hid (lv 4294967296 O = lv 4294967296 A + lv 4294967296 C) := VAL.out hc1 (by omega) (by omega)
            have hO2 := HO2
            have hnz : Hid (noz O) := by
              refine noz_of_ge (B := 4294967296) (by omega) O dO fun _ => ?_
              rw [hv.out, HOL.out]
              rcases HBIG.out with h | h
              · have e : i = n := by have := HN.out; omega
                by_cases hz : i = na
                · by_cases hne : A = []
                  · have : na = 0 := by rw [← HNA.out, hne]; rfl
                    have h0 : O = [] := List.eq_nil_of_length_eq_zero (by rw [HOL.out]; omega)
                    exact absurd h0 ‹O ≠ []›
                  · have := lv_ge (B := 4294967296) A nA hne
                    rw [HNA.out] at this
                    rw [hz]; omega
                · have hz2 : i = nc := by have := HN.out; omega
                  by_cases hne : C = []
                  · have : nc = 0 := by rw [← HNC.out, hne]; rfl
                    have h0 : O = [] := List.eq_nil_of_length_eq_zero (by rw [HOL.out]; omega)
                    exact absurd h0 ‹O ≠ []›
                  · have := lv_ge (B := 4294967296) C nC hne
                    rw [HNC.out] at this
                    rw [hz2]; omega
              · exact Nat.le_trans (Nat.pow_le_pow_right (by omega) (by omega)) h
            subst hc1
            go_wp2_with fail
            go_ret
            exact ⟨_, rfl, O, hO2, dO, hnz.out, hv.out, HOLE.out, hchr⟩

end Go.Proofs.Ytgdpcpbmjgaliaa

/- Part R7. -/

namespace Go.Proofs.Ytgdpcpbmjgaliaa
open Go.RowKit Nd

end Go.Proofs.Ytgdpcpbmjgaliaa

/- Part R8. -/

namespace Go.Proofs.Ytgdpcpbmjgaliaa
open Go.RowKit Nd

end Go.Proofs.Ytgdpcpbmjgaliaa

/- Part R9. -/

namespace Go.Proofs.Ytgdpcpbmjgaliaa
open Go.RowKit Nd

set_option maxRecDepth 20000 in
set_option maxHeartbeats 1000000 in
theorem short_row (g cap d : Nat) (X : List Nat) (w : World) (hX : Row 106 .u32 w g cap X) (dX : dig 4294967296 X) (lx : X.length ≤ 1099511627776) (hd0 : 0 < d) (hd : d < 4294967296) :
    Calls Try.prog 106 #[.slice (some ⟨g, 0, none⟩) X.length cap, .int .u32 d] w fun e w' => ∃ (g' c' r : Nat) (L : List Nat), e = .returned (.tuple #[.slice (some ⟨g', 0, none⟩) L.length c', .int .u32 r]) ∧
      Row 106 .u32 w' g' c' L ∧ w.heap.size ≤ g' ∧ L.length ≤ X.length ∧ dig 4294967296 L ∧ noz L ∧ lv 4294967296 L = lv 4294967296 X / d ∧ r = lv 4294967296 X % d ∧ Chg [] w w' := by
  obtain ⟨i0, hi, hz0, hz1, hz2⟩ := info_parts Try.info32
  obtain ⟨n, HN⟩ := name_it X.length
  have hs0 := ShI.start (d := d) (X := X) (L := List.replicate X.length 0) hd0 (by simp) (dig_replicate (by omega) _)
  rw [HN.out] at hs0 ⊢
  rw [HN.out] at lx
  have HS0 := Lib.hid hs0
  clear hs0
  go_enter Try.func106, Try.ntmps106
  go_wp2_with (at_make; refine wpList_make_cap _ rfl (.tmp 10) (.tmp 10) 99 rfl 106 i0 .u32 Try.underlying99 hi hz0 hz1 .i64 .i64 _ _ n n rfl rfl rfl rfl (Nat.le_refl _) (by rw [hz2]; omega) (by omega) ?_)
  intro w1 hrow hch
  have hX1 := hX.keep hch (by simp)
  have hne : g ≠ w.heap.size := by have := hX.lt; omega
  obtain ⟨b, HG⟩ := name_it w.heap.size
  rw [HG.out] at hrow hne ⊢
  clear hi hz0 hz1 hz2 hX
  go_wp2_with fail
  go_loopw [7, 8] (fun rv iv wr => ∃ (t r : Nat) (L : List Nat), t ≤ n ∧ iv = .int .i64 ((t : Int) - 1) ∧ rv = .int .u64 r ∧ ShI d X t r L ∧ Row 106 .u32 wr b n L ∧ Row 106 .u32 wr g cap X ∧ Chg [] w wr)
    (fun _ iv _ => (intOf iv + 1).toNat)
  case atStart => exact ⟨n, 0, _, Nat.le_refl _, rfl, rfl, HS0.out, hrow, hX1, hch⟩
  case round =>
    obtain ⟨t, r, L, ht, rfl, rfl, hP, hr, hx, hch⟩ := hrel
    clear hX1 hrow HS0
    by_cases ht0 : 1 ≤ t
    · obtain ⟨i, rfl⟩ : ∃ i, t = i + 1 := ⟨t - 1, by omega⟩
      have hii : ((i + 1 : Nat) : Int) - 1 = (i : Int) := by omega
      rw [hii]
      clear hii ht0
      have hcx := hx.cell i (by rw [HN.out]; omega)
      obtain ⟨x, HX⟩ := name_it (X.getD i 0)
      rw [HX.out] at hcx
      have hx1 : x < 4294967296 := by rw [← HX.out]; exact dig_getD (by omega) dX i
      have hcl := hr.cell i (by rw [hP.len, HN.out]; omega)
      have hfr := hr.frozen i
      obtain ⟨old, HO⟩ := name_it (L.getD i 0)
      rw [HO.out] at hcl
      have hst := hP.step (by rw [HN.out]; omega) HX.out dX
      have hr1 := hP.rest
      have hor : bits BinOp.or IntKind.u64 ((r : Int) * 4294967296) (x : Int) = ((r * 4294967296 + x : Nat) : Int) := by
        have := or_u64 r x 32 (by omega) (by omega) (by omega)
        simpa using this
      obtain ⟨T, HT⟩ := name_it (r * 4294967296 + x)
      rw [HT.out] at hor hst
      have hT : T ≤ 18446744073709551615 := by have := HT.out; omega
      obtain ⟨q, HQ⟩ := name_it (T / d)
      obtain ⟨s, HS⟩ := name_it (T % d)
      rw [HQ.out, HS.out] at hst
      have hq : (T : Int) / (d : Int) = (q : Int) := by rw [← HQ.out]; simp
      have hs : (T : Int) % (d : Int) = (s : Int) := by rw [← HS.out]; simp
      have hqb := hst.1
      have HST := Lib.hid hst.2
      have hsb : s < 4294967296 := by rw [← HS.out]; exact Nat.lt_trans (Nat.mod_lt _ hd0) hd
      clear hst hP
      go_wp2_with fail
      go_roundw
      case rel => exact ⟨i, s, L.set i q, by omega, rfl, by rw [hs], HST.out, hr.store _ _, hx.other hne _, hch.setCell (.inr (by rw [← HG.out]; exact Nat.le_refl _)) _⟩
      case measure => simp [intOf]
    · have ht1 : t = 0 := by omega
      subst ht1
      have hd2 := Lib.hid hP.done
      have hll : Hid (L.length = n) := by show L.length = n; rw [hP.len]; exact HN.out
      have dL := hP.digs
      have hr1 := hP.rest
      clear hP
      go_wp2_with fail
      rw [← hll.out]
      rw [← hll.out] at hr
      refine (strip_row b L.length L _ hr).mono ?_
      rintro e w3 ⟨rfl, rfl⟩
      have hrt : Row _ _ _ _ _ (trim L) := hr.take (tl L) (tl_le L)
      have hle := tl_le L
      have hrm : ((r : Int) % 4294967296) = (r : Int) := by omega
      go_wp2_with fail
      go_ret2
      exact ⟨b, L.length, r, trim L, by rw [trim_length]; rfl, hrt, by rw [← HG.out]; exact Nat.le_refl _, by rw [trim_length]; have := hll.out; omega, trim_dig dL, trim_noz L, by rw [lv_trim]; exact hd2.out.1, hd2.out.2, hch⟩

end Go.Proofs.Ytgdpcpbmjgaliaa
