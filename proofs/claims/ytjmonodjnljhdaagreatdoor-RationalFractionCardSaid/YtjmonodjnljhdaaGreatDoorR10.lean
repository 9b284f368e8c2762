/-
  Walks of the reference: written, NatFormat.
-/
import Derived.Test.YtjmonodjnljhdaaGreatDoorR9
namespace Go.Proofs.YtjmonodjnljhdaaGreatDoor
open Go.RowKit Nd

/-- A slice of bytes that the call makes: nil, or a row of its own. -/
inductive Own8 (w0 w : World) : Value → List Nat → Prop
  | nil : Own8 w0 w (.slice none 0 0) []
  | row (g cap : Nat) (xs : List Nat) (h : Row 5 .u8 w g cap xs) (hg : w0.heap.size ≤ g) (hne : xs ≠ []) : Own8 w0 w (.slice (some ⟨g, 0, none⟩) xs.length cap) xs

/-- i pairs of X are exchanged. -/
structure Rev (X : List Nat) (n i : Nat) (M : List Nat) : Prop where
  len : M.length = n
  out : ∀ j, j < n → (j < i ∨ n - i ≤ j) → M.getD j 0 = X.getD (n - 1 - j) 0
  mid : ∀ j, i ≤ j → j < n - i → M.getD j 0 = X.getD j 0
theorem Rev.step {X M : List Nat} {n i : Nat} (h : Rev X n i M) (hi : i < n / 2) :
    Rev X n (i + 1) ((M.set i (M.getD (n - 1 - i) 0)).set (n - 1 - i) (M.getD i 0)) := by
  have h1 := h.mid i (Nat.le_refl _) (by omega)
  have h2 := h.mid (n - 1 - i) (by omega) (by omega)
  refine ⟨by simpa using h.len, fun j hj hjj => ?_, fun j hj hjj => ?_⟩
  · by_cases e1 : j = n - 1 - i
    · subst e1
      rw [Nd.getD_set_eq (by simp [h.len]; omega), h1, show n - 1 - (n - 1 - i) = i by omega]
    · rw [Nd.getD_set_ne e1]
      by_cases e2 : j = i
      · subst e2
        rw [Nd.getD_set_eq (by rw [h.len]; omega), h2]
      · rw [Nd.getD_set_ne e2]
        exact h.out j hj (by omega)
  · rw [Nd.getD_set_ne (by omega), Nd.getD_set_ne (by omega)]
    exact h.mid j (by omega) (by omega)
theorem Rev.done {X M : List Nat} {n i : Nat} (h : Rev X n i M) (hX : X.length = n) (hi : n / 2 ≤ i) (hi2 : i ≤ n / 2) : M = X.reverse := by
  apply List.ext_getElem
  · rw [h.len]; simp [hX]
  · intro j h1 h2
    have hj : j < n := by rw [← h.len]; exact h1
    rw [List.getElem_reverse]
    have e : M.getD j 0 = X.getD (n - 1 - j) 0 := by
      by_cases hc : j < i ∨ n - i ≤ j
      · exact h.out j hj hc
      · rw [h.mid j (by omega) (by omega)]
        congr 1; omega
    rw [getD_lt _ _ h1, getD_lt _ _ (by omega)] at e
    rw [e]
    congr 1
    rw [hX]

theorem Dec_chr {E : List Nat} (dE : dig 10 E) (hne : E ≠ []) (hz : noz E) : Dec (ofNums (chr E.reverse)) (lv 10 E) := by
  have hall := ofNums_chr_all _ (dig_reverse dE)
  refine ⟨?_, by rw [dv_chr _ (dig_reverse dE), List.reverse_reverse]⟩
  obtain ⟨m, x, rfl⟩ : ∃ m x, E = m ++ [x] := ⟨E.dropLast, E.getLast hne, (dropLast_last E hne).symm⟩
  have hx : x ≠ 0 := by rintro rfl; simp [noz] at hz
  have hx10 : x < 10 := dE x (by simp)
  have hh : (ofNums (chr (m ++ [x]).reverse)).head? = some (UInt8.ofNat (x + 48)) := by simp [chr, ofNums]
  have hh2 : UInt8.ofNat (x + 48) ≠ 48 := by
    intro h
    have := congrArg UInt8.toNat h
    rw [UInt8.toNat_ofNat_of_lt' (by simp [UInt8.size]; omega)] at this
    simp at this
    omega
  simp only [canD, Bool.and_eq_true, Bool.not_eq_true', Bool.or_eq_true, decide_eq_true_eq]
  refine ⟨⟨?_, hall⟩, .inr (by rw [hh]; simpa using hh2)⟩
  cases hc : ofNums (chr (m ++ [x]).reverse) with
  | nil => rw [hc] at hh; simp at hh
  | cons => rfl

set_option maxRecDepth 20000 in
set_option maxHeartbeats 2000000 in
theorem written_row (gx cx : Nat) (X : List Nat) (w : World) (u : Nat) (hX : Row 45 .u32 w gx cx X) (dX : dig 4294967296 X) (nX : noz X) (lx : X.length ≤ 68719476736) (hu : lv 4294967296 X = u) :
    Calls Tryz.prog 85 #[.slice (some ⟨gx, 0, none⟩) X.length cx] w fun e w' => ∃ t : ByteArray, e = .returned (.string t) ∧ Dec t.data.toList u ∧ Chg [] w w' := by
  obtain ⟨i0, hi, hz0, hz1, hz2⟩ := info_parts Tryz.info8
  obtain ⟨m, HM⟩ := name_it X.length
  have hun : u < 4294967296 ^ m := by
    rw [← hu, ← HM.out]
    exact lv_lt (by omega) X dX
  rw [HM.out] at lx
  have HUN := Lib.hid hun
  have HU := Lib.hid hu
  clear hun hu
  go_enter Tryz.func85, Tryz.ntmps85
  go_wp2_with fail
  go_loopg [0, 3] u (fun k xv bv' wr => ∃ (gx cx : Nat) (X E T : List Nat), xv = .slice (some ⟨gx, 0, none⟩) X.length cx ∧ lv 4294967296 X = k ∧ Row 45 .u32 wr gx cx X ∧ dig 4294967296 X ∧ noz X ∧ X.length ≤ m ∧ E.length ≤ 687194767360 ∧ Out u (lv 4294967296 X) E ∧
      (lv 4294967296 X = 0 → E = [] ∨ noz E) ∧ chr E = T ∧ Own8 w wr bv' T ∧ Chg [] w wr)
  case atStart => exact ⟨gx, cx, X, [], [], rfl, HU.out, hX, dX, nX, by rw [HM.out]; exact Nat.le_refl _, Nat.zero_le _, ⟨dig_nil _, by rw [HU.out]; simp⟩, fun _ => .inl rfl, rfl, Own8.nil, Chg.refl _ _⟩
  case round =>
    clear hX dX nX HM
    obtain ⟨gx, cx, X, E, T, rfl, hk, hX, dX, nX, lX, lE, hO, hz, hT, hB, hch⟩ := hrel
    have HK := Lib.hid hk
    have HT := Lib.hid hT
    obtain ⟨x, HX⟩ := name_it (lv 4294967296 X)
    obtain ⟨nx, HNX⟩ := name_it X.length
    rw [HNX.out]
    rw [HX.out] at hO hz
    have HZ := Lib.hid hz
    clear hk hz hT
    by_cases h0 : 0 < nx
    · have hpos : 0 < x := by rw [← HX.out]; exact lv_pos (by omega) nX (by rintro rfl; simp [Hid] at HNX; omega)
      have hb := hO.bound hpos HUN.out
      have HOS := Lib.hid hO.step
      have hnz : x / 10 = 0 → noz (E ++ [x % 10]) := by
        intro h
        have : x % 10 ≠ 0 := by omega
        simp [noz]; omega
      have HNZ := Lib.hid hnz
      have hEl : E.length + 1 ≤ 687194767360 := by omega
      clear hnz hO hb
      go_wp2_with fail
      rw [← HNX.out]
      refine (short_row gx cx 10 X wr hX dX (by omega) (by omega) (by omega)).mono ?_
      rintro e1 w3 ⟨g3, c3, r, L, rfl, hL, hg3, lL, dL, nL, vL, vr, hc3⟩
      rw [HX.out] at vL vr
      have hr10 : r < 10 := by rw [vr]; omega
      have hmes : Hid (x / 10 < gk) := by show _ < _; rw [← HK.out, HX.out]; omega
      have hl3 : L.length ≤ m := by omega
      have hg3w : Hid (w.heap.size ≤ g3) := by show _ ≤ _; have := hch.size; omega
      have REL : Hid (Out u (lv 4294967296 L) (E ++ [r]) ∧ (lv 4294967296 L = 0 → E ++ [r] = [] ∨ noz (E ++ [r])) ∧ chr (E ++ [r]) = T ++ [r + 48] ∧ lv 4294967296 L < gk) := by
        refine ⟨by rw [vL, vr]; exact HOS.out, fun h => .inr ?_, by rw [chr_append, HT.out]; rfl, by rw [vL]; exact hmes.out⟩
        rw [vr]
        exact HNZ.out (by rw [← vL]; exact h)
      have hTl : Hid (T.length = E.length) := by show _ = _; rw [← HT.out]; simp [chr]
      clear vL vr hX lL HOS HNZ hmes HZ HK HX HT
      have hch3 := hch.then hc3
      have hr48 : Hid (((48 : Int) + (r : Int)) % 256 = ((r + 48 : Nat) : Int)) := by show _ = _; omega
      obtain ⟨nl, HNL⟩ := name_it L.length
      have fin : ∀ (g' cap' : Nat) (w' : World) (T' : List Nat), T' = T ++ [r + 48] → Row 5 .u8 w' g' cap' T' → w.heap.size ≤ g' → Row 45 .u32 w' g3 c3 L → Chg [] w w' →
          ∃ (gx cx : Nat) (X E T : List Nat), Value.slice (some ⟨g3, 0, none⟩) nl c3 = .slice (some ⟨gx, 0, none⟩) X.length cx ∧ lv 4294967296 X = lv 4294967296 L ∧ Row 45 .u32 w' gx cx X ∧ dig 4294967296 X ∧ noz X ∧ X.length ≤ m ∧ E.length ≤ 687194767360 ∧ Out u (lv 4294967296 X) E ∧
            (lv 4294967296 X = 0 → E = [] ∨ noz E) ∧ chr E = T ∧ Own8 w w' (.slice (some ⟨g', 0, none⟩) T'.length cap') T ∧ Chg [] w w' := by
        intro g' cap' w' T' hT' h1 h2 h3 h4
        exact ⟨g3, c3, L, E ++ [r], T', by rw [HNL.out], rfl, h3, dL, nL, hl3, by simpa using hEl, REL.out.1, REL.out.2.1, by rw [hT']; exact REL.out.2.2.1, Own8.row g' cap' T' h1 h2 (by rw [hT']; simp), h4⟩
      have FIN := Lib.hid fin
      have hmes : Hid (lv 4294967296 L < gk) := REL.out.2.2.2
      clear fin REL
      rw [HNL.out]
      cases hB with
      | nil =>
        go_wp2_with (at_builtin; refine wpList_append_rownil _ rfl (.tmp 16) (.tmp 20) 53 rfl 5 i0 .u8 Tryz.underlying53 hi hz0 hz1 (by rw [hz2]; omega) rfl [r + 48] (by simp) 1 rfl ⟨w3.heap.size, 0, none⟩ 1 rfl (cells_alloc w3 _ 5 .u8 [r + 48] (by simp [vals]; omega) (by simp)) (by omega) ?_)
        intro g' cap' w' hr' hg' hch'
        have hg2 : w.heap.size ≤ g' := by have := hch3.size; omega
        have hL' := (hL.keep ((Chg.refl [] w3).alloc _) (by simp)).keep hch' (by simp)
        have hch2 : Chg [] w w' := (hch3.alloc _).then hch'
        have R := Lib.hid (FIN.out g' cap' w' [r + 48] rfl hr' hg2 hL' hch2)
        clear hr' hg' hch' hg2 hL' hch2 hch3 hch hL
        go_wp2_with fail
        go_roundg (lv 4294967296 L)
        case measure => exact hmes.out
        case rel => exact R.out
      | row g cap _ hro hog hne =>
        have hro3 := hro.keep hc3 (by simp)
        obtain ⟨nt, HNT⟩ := name_it T.length
        have hnt : nt ≤ 687194767360 := by have := HNT.out; have := hTl.out; omega
        rw [HNT.out]
        have hgne : g3 ≠ g := by have := hro.lt; have := hg3; omega
        go_wp2_with (at_builtin; refine wpList_append_row _ rfl (.tmp 16) (.tmp 20) 53 rfl 5 i0 .u8 Tryz.underlying53 hi hz0 hz1 (by rw [hz2]; omega) g cap T nt HNT.out rfl (hro3.keep ((Chg.refl [] w3).alloc _) (by simp)) [r + 48] 1 rfl ⟨w3.heap.size, 0, none⟩ 1 rfl (cells_alloc w3 _ 5 .u8 [r + 48] (by simp [vals]; omega) (by simp)) (by omega) ?_)
        intro g' cap' w' hr' hg' hch'
        have hg2 : w.heap.size ≤ g' := by
          rcases hg' with h | h
          · rw [h]; exact hog
          · have := hch3.size; omega
        have hL' := (hL.keep ((Chg.refl [] w3).alloc _) (by simp)).keep hch' (by simpa using hgne)
        have hch2 : Chg [] w w' := (hch3.alloc _).fresh hch' hog
        have R := Lib.hid (FIN.out g' cap' w' (T ++ [r + 48]) rfl hr' hg2 hL' hch2)
        have hlen : (T ++ [r + 48]).length = nt + 1 := by simp [HNT.out]
        rw [hlen] at R
        clear hr' hg' hch' hg2 hL' hch2 hch3 hch hL hro hro3 hlen
        go_wp2_with fail
        go_roundg (lv 4294967296 L)
        case measure => exact hmes.out
        case rel => exact R.out
    · have hn0 : X.length = 0 := by rw [HNX.out]; omega
      have hx0 : x = 0 := by rw [← HX.out]; exact (lv_nil_iff (B := 4294967296) (by omega) nX).1 hn0
      have hu : Hid (u = lv 10 E) := by have := hO.value; rw [hx0] at this; show u = _; simpa using this
      have hEz := Lib.hid (HZ.out hx0)
      have dE := hO.digs
      clear hX hO hn0 HZ
      cases hB with
      | nil =>
        have hE0 : E = [] := List.eq_nil_of_length_eq_zero (by have := congrArg List.length HT.out; simpa [chr] using this)
        have hu0 : u = 0 := by rw [hu.out, hE0]; rfl
        have hd : Hid (Dec [48] u) := by rw [hu0]; exact ⟨rfl, rfl⟩
        clear hE0 hu0
        go_wp2_with fail
        go_ret
        exact ⟨_, rfl, hd.out, hch⟩
      | row g cap _ hro hog hne =>
        have hEne : E ≠ [] := by rintro rfl; exact hne HT.out.symm
        have hd := Dec_chr dE hEne (hEz.out.resolve_left hEne)
        rw [← hu.out] at hd
        have hTr : chr E.reverse = T.reverse := by rw [← HT.out]; simp [chr]
        rw [hTr] at hd
        have HD := Lib.hid hd
        obtain ⟨n, HN⟩ := name_it T.length
        have hn1 : 1 ≤ n := by rw [← HN.out]; exact List.length_pos_iff.2 hne
        have hnb : n ≤ 1099511627776 := by have h1 := HN.out; have h2 := congrArg List.length HT.out; simp [chr] at h2; omega
        rw [HN.out]
        clear hd hTr
        go_wp2_with fail
        go_loopw [6] (fun iv wr => ∃ (i : Nat) (M : List Nat), i ≤ n / 2 ∧ iv = .int .i64 i ∧ Rev T n i M ∧ Row 5 .u8 wr g cap M ∧ Chg [] w wr)
          (fun iv _ => n - (intOf iv).toNat)
        case atStart => exact ⟨0, T, Nat.zero_le _, rfl, ⟨HN.out, fun j h1 h2 => by omega, fun _ _ _ => rfl⟩, hro, hch⟩
        case round =>
          clear hro hch
          obtain ⟨i, M, hin, rfl, hR, hr, hch⟩ := hrel
          by_cases hlt : i < n / 2
          · have hc1 := hr.cell i (by rw [hR.len]; omega)
            have hc2 := hr.cell (n - 1 - i) (by rw [hR.len]; omega)
            have hf1 := hr.frozen i
            have hf2 := (hr.store i (M.getD (n - 1 - i) 0)).frozen (n - 1 - i)
            have HRS := Lib.hid (hR.step hlt)
            have hlm : Hid (M.length = n) := hR.len
            obtain ⟨a, HA⟩ := name_it (M.getD i 0)
            obtain ⟨b, HB⟩ := name_it (M.getD (n - 1 - i) 0)
            rw [HA.out] at hc1
            rw [HB.out] at hc2 hf2
            rw [HA.out, HB.out] at HRS
            clear hR
            go_wp2_with fail
            go_roundw
            case rel => exact ⟨i + 1, _, by omega, by go_num, HRS.out, (hr.store _ _).store _ _, (hch.setCell (.inr hog) _).setCell (.inr hog) _⟩
            case measure => simp [intOf]; omega
          · have hdn : Hid (M = T.reverse) := hR.done HN.out (by omega) hin
            have hlm := hR.len
            have hstr := run_str_off hr 0 n cap (by rw [hlm]; omega)
            have HDD : Hid (Dec (strOf (M.drop 0)).data.toList u) := by
              rw [List.drop_zero, hdn.out, strOf_list]; exact HD.out
            clear hlm hR
            go_wp2_with fail
            go_ret
            exact ⟨_, rfl, HDD.out, hch⟩

set_option maxRecDepth 20000 in
theorem natFormat_any (s : ByteArray) (w : World) (hs : s.size ≤ 68719476736) :
    Calls Tryz.prog 48 #[.string s] w fun e w' => ∃ t : ByteArray, e = .returned (.string t) ∧ Dec t.data.toList (val s) ∧ Chg [] w w' := by
  go_enter Tryz.func48, Tryz.ntmps48
  go_wp2_with fail
  refine (limbs_any s _ (by omega)).mono ?_
  rintro e w1 ⟨g, cap, X, rfl, hX, hg, dX, nX, vX, lX, c1⟩
  obtain ⟨u, HU⟩ := name_it (val s)
  rw [HU.out] at vX
  have VX := Lib.hid vX
  have hl : X.length ≤ 68719476736 := by omega
  obtain ⟨n, HN⟩ := name_it X.length
  rw [HN.out] at hl ⊢
  clear vX lX
  go_wp2_with fail
  rw [← HN.out]
  refine (written_row g cap X w1 u hX dX nX (by rw [HN.out]; exact hl) VX.out).mono ?_
  rintro e w2 ⟨t, rfl, ht, c2⟩
  have c3 := c1.then c2
  rw [← HU.out] at ht
  have HT := Lib.hid ht
  clear ht
  go_wp2_with fail
  go_ret
  exact ⟨t, rfl, HT.out, c3⟩

end Go.Proofs.YtjmonodjnljhdaaGreatDoor
