/-
  Several parts put together: R10, R11, R12, R13.
-/
import Derived.Test.YtogciehmdlfkfaaGreatDoorGH
import Derived.Test.YtogciehmdlfkfaaGreatDoorGA
/- Part R10. -/

namespace Go.Proofs.YtogciehmdlfkfaaGreatDoor
open Go.RowKit Nd

/-- A slice of bytes that the call makes: nil, or a row of its own. -/
inductive Own8 (w0 w : World) : Value → List Nat → Prop
  | nil : Own8 w0 w (.slice none 0 0) []
  | row (g cap : Nat) (xs : List Nat) (h : Row 5 .u8 w g cap xs) (hg : w0.heap.size ≤ g) (hne : xs ≠ []) : Own8 w0 w (.slice (some ⟨g, 0, none⟩) xs.length cap) xs

/-- i pairs of X are exchanged. -/
structure Rev (X : List Nat) (n i : Nat) (M : List Nat) : Prop where
  len : M.length = n
  out : ∀ j, j < n → (j < i ∨ n - i ≤ j) → M.getD j 0 = X.getD (n - 1 - j) 0
  mid : ∀ j, i ≤ j → j < n - i → M.getD j 0 = X.getD j 0
theorem Rev.step {X M : List Nat} {n i : Nat} (h : Rev X n i M) (hi : i < n / 2) :
    Rev X n (i + 1) ((M.set i (M.getD (n - 1 - i) 0)).set (n - 1 - i) (M.getD i 0)) := by
  have h1 := h.mid i (Nat.le_refl _) (by omega)
  have h2 := h.mid (n - 1 - i) (by omega) (by omega)
  refine ⟨by simpa using h.len, fun j hj hjj => ?_, fun j hj hjj => ?_⟩
  · by_cases e1 : j = n - 1 - i
    · subst e1
      rw [Nd.getD_set_eq (by simp [h.len]; omega), h1, show n - 1 - (n - 1 - i) = i by omega]
    · rw [Nd.getD_set_ne e1]
      by_cases e2 : j = i
      · subst e2
        rw [Nd.getD_set_eq (by rw [h.len]; omega), h2]
      · rw [Nd.getD_set_ne e2]
        exact h.out j hj (by omega)
  · rw [Nd.getD_set_ne (by omega), Nd.getD_set_ne (by omega)]
    exact h.mid j (by omega) (by omega)
theorem Rev.done {X M : List Nat} {n i : Nat} (h : Rev X n i M) (hX : X.length = n) (hi : n / 2 ≤ i) (hi2 : i ≤ n / 2) : M = X.reverse := by
  apply List.ext_getElem
  · rw [h.len]; simp [hX]
  · intro j h1 h2
    have hj : j < n := by rw [← h.len]; exact h1
    rw [List.getElem_reverse]
    have e : M.getD j 0 = X.getD (n - 1 - j) 0 := by
      by_cases hc : j < i ∨ n - i ≤ j
      · exact h.out j hj hc
      · rw [h.mid j (by omega) (by omega)]
        congr 1; omega
    rw [getD_lt _ _ h1, getD_lt _ _ (by omega)] at e
    rw [e]
    congr 1
    rw [hX]

theorem Dec_chr {E : List Nat} (dE : dig 10 E) (hne : E ≠ []) (hz : noz E) : Dec (ofNums (chr E.reverse)) (lv 10 E) := by
  have hall := ofNums_chr_all _ (dig_reverse dE)
  refine ⟨?_, by rw [dv_chr _ (dig_reverse dE), List.reverse_reverse]⟩
  obtain ⟨m, x, rfl⟩ : ∃ m x, E = m ++ [x] := ⟨E.dropLast, E.getLast hne, (dropLast_last E hne).symm⟩
  have hx : x ≠ 0 := by rintro rfl; simp [noz] at hz
  have hx10 : x < 10 := dE x (by simp)
  have hh : (ofNums (chr (m ++ [x]).reverse)).head? = some (UInt8.ofNat (x + 48)) := by simp [chr, ofNums]
  have hh2 : UInt8.ofNat (x + 48) ≠ 48 := by
    intro h
    have := congrArg UInt8.toNat h
    rw [UInt8.toNat_ofNat_of_lt' (by simp [UInt8.size]; omega)] at this
    simp at this
    omega
  simp only [canD, Bool.and_eq_true, Bool.not_eq_true', Bool.or_eq_true, decide_eq_true_eq]
  refine ⟨⟨?_, hall⟩, .inr (by rw [hh]; simpa using hh2)⟩
  cases hc : ofNums (chr (m ++ [x]).reverse) with
  | nil => rw [hc] at hh; simp at hh
  | cons => rfl

set_option maxRecDepth 20000 in
set_option maxHeartbeats 2000000 in
theorem written_row (gx cx : Nat) (X : List Nat) (w : World) (u : Nat) (hX : Row 120 .u32 w gx cx X) (dX : dig 4294967296 X) (nX : noz X) (lx : X.length ≤ 68719476736) (hu : lv 4294967296 X = u) :
    Calls Tryz.prog 100 #[.slice (some ⟨gx, 0, none⟩) X.length cx] w fun e w' => ∃ t : ByteArray, e = .returned (.string t) ∧ Dec t.data.toList u ∧ Chg [] w w' := by
  obtain ⟨i0, hi, hz0, hz1, hz2⟩ := info_parts Tryz.info8
  obtain ⟨m, HM⟩ := name_it X.length
  have hun : u < 4294967296 ^ m := by
    rw [← hu, ← HM.out]
    exact lv_lt (by omega) X dX
  rw [HM.out] at lx
  have HUN := Lib.hid hun
  have HU := Lib.hid hu
  clear hun hu
  go_enter Tryz.func100, Tryz.ntmps100
  go_wp2_with fail
  go_loopg [0, 3] u (fun k xv bv' wr => ∃ (gx cx : Nat) (X E T : List Nat), xv = .slice (some ⟨gx, 0, none⟩) X.length cx ∧ lv 4294967296 X = k ∧ Row 120 .u32 wr gx cx X ∧ dig 4294967296 X ∧ noz X ∧ X.length ≤ m ∧ E.length ≤ 687194767360 ∧ Out u (lv 4294967296 X) E ∧
      (lv 4294967296 X = 0 → E = [] ∨ noz E) ∧ chr E = T ∧ Own8 w wr bv' T ∧ Chg [] w wr)
  case atStart => exact ⟨gx, cx, X, [], [], rfl, HU.out, hX, dX, nX, by rw [HM.out]; exact Nat.le_refl _, Nat.zero_le _, ⟨dig_nil _, by rw [HU.out]; simp⟩, fun _ => .inl rfl, rfl, Own8.nil, Chg.refl _ _⟩
  case round =>
    clear hX dX nX HM
    obtain ⟨gx, cx, X, E, T, rfl, hk, hX, dX, nX, lX, lE, hO, hz, hT, hB, hch⟩ := hrel
    have HK := Lib.hid hk
    have HT := Lib.hid hT
    obtain ⟨x, HX⟩ := name_it (lv 4294967296 X)
    obtain ⟨nx, HNX⟩ := name_it X.length
    rw [HNX.out]
    rw [HX.out] at hO hz
    have HZ := Lib.hid hz
    clear hk hz hT
    by_cases h0 : 0 < nx
    · have hpos : 0 < x := by rw [← HX.out]; exact lv_pos (by omega) nX (by rintro rfl; simp [Hid] at HNX; omega)
      have hb := hO.bound hpos HUN.out
      have HOS := Lib.hid hO.step
      have hnz : x / 10 = 0 → noz (E ++ [x % 10]) := by
        intro h
        have : x % 10 ≠ 0 := by omega
        simp [noz]; omega
      have HNZ := Lib.hid hnz
      have hEl : E.length + 1 ≤ 687194767360 := by omega
      clear hnz hO hb
      go_wp2_with fail
      rw [← HNX.out]
      refine (short_row gx cx 10 X wr hX dX (by omega) (by omega) (by omega)).mono ?_
      rintro e1 w3 ⟨g3, c3, r, L, rfl, hL, hg3, lL, dL, nL, vL, vr, hc3⟩
      rw [HX.out] at vL vr
      have hr10 : r < 10 := by rw [vr]; omega
      have hmes : Hid (x / 10 < gk) := by show _ < _; rw [← HK.out, HX.out]; omega
      have hl3 : L.length ≤ m := by omega
      have hg3w : Hid (w.heap.size ≤ g3) := by show _ ≤ _; have := hch.size; omega
      have REL : Hid (Out u (lv 4294967296 L) (E ++ [r]) ∧ (lv 4294967296 L = 0 → E ++ [r] = [] ∨ noz (E ++ [r])) ∧ chr (E ++ [r]) = T ++ [r + 48] ∧ lv 4294967296 L < gk) := by
        refine ⟨by rw [vL, vr]; exact HOS.out, fun h => .inr ?_, by rw [chr_append, HT.out]; rfl, by rw [vL]; exact hmes.out⟩
        rw [vr]
        exact HNZ.out (by rw [← vL]; exact h)
      have hTl : Hid (T.length = E.length) := by show _ = _; rw [← HT.out]; simp [chr]
      clear vL vr hX lL HOS HNZ hmes HZ HK HX HT
      have hch3 := hch.then hc3
      have hr48 : Hid (((48 : Int) + (r : Int)) % 256 = ((r + 48 : Nat) : Int)) := by show _ = _; omega
      obtain ⟨nl, HNL⟩ := name_it L.length
      have fin : ∀ (g' cap' : Nat) (w' : World) (T' : List Nat), T' = T ++ [r + 48] → Row 5 .u8 w' g' cap' T' → w.heap.size ≤ g' → Row 120 .u32 w' g3 c3 L → Chg [] w w' →
          ∃ (gx cx : Nat) (X E T : List Nat), Value.slice (some ⟨g3, 0, none⟩) nl c3 = .slice (some ⟨gx, 0, none⟩) X.length cx ∧ lv 4294967296 X = lv 4294967296 L ∧ Row 120 .u32 w' gx cx X ∧ dig 4294967296 X ∧ noz X ∧ X.length ≤ m ∧ E.length ≤ 687194767360 ∧ Out u (lv 4294967296 X) E ∧
            (lv 4294967296 X = 0 → E = [] ∨ noz E) ∧ chr E = T ∧ Own8 w w' (.slice (some ⟨g', 0, none⟩) T'.length cap') T ∧ Chg [] w w' := by
        intro g' cap' w' T' hT' h1 h2 h3 h4
        exact ⟨g3, c3, L, E ++ [r], T', by rw [HNL.out], rfl, h3, dL, nL, hl3, by simpa using hEl, REL.out.1, REL.out.2.1, by rw [hT']; exact REL.out.2.2.1, Own8.row g' cap' T' h1 h2 (by rw [hT']; simp), h4⟩
      have FIN := Lib.hid fin
      have hmes : Hid (lv 4294967296 L < gk) := REL.out.2.2.2
      clear fin REL
      rw [HNL.out]
      cases hB with
      | nil =>
        go_wp2_with (at_builtin; refine wpList_append_rownil _ rfl (.tmp 16) (.tmp 20) 51 rfl 5 i0 .u8 Tryz.underlying51 hi hz0 hz1 (by rw [hz2]; omega) rfl [r + 48] (by simp) 1 rfl ⟨w3.heap.size, 0, none⟩ 1 rfl (cells_alloc w3 _ 5 .u8 [r + 48] (by simp [vals]; omega) (by simp)) (by omega) ?_)
        intro g' cap' w' hr' hg' hch'
        have hg2 : w.heap.size ≤ g' := by have := hch3.size; omega
        have hL' := (hL.keep ((Chg.refl [] w3).alloc _) (by simp)).keep hch' (by simp)
        have hch2 : Chg [] w w' := (hch3.alloc _).then hch'
        have R := Lib.hid (FIN.out g' cap' w' [r + 48] rfl hr' hg2 hL' hch2)
        clear hr' hg' hch' hg2 hL' hch2 hch3 hch hL
        go_wp2_with fail
        go_roundg (lv 4294967296 L)
        case measure => exact hmes.out
        case rel => exact R.out
      | row g cap _ hro hog hne =>
        have hro3 := hro.keep hc3 (by simp)
        obtain ⟨nt, HNT⟩ := name_it T.length
        have hnt : nt ≤ 687194767360 := by have := HNT.out; have := hTl.out; omega
        rw [HNT.out]
        have hgne : g3 ≠ g := by have := hro.lt; have := hg3; omega
        go_wp2_with (at_builtin; refine wpList_append_row _ rfl (.tmp 16) (.tmp 20) 51 rfl 5 i0 .u8 Tryz.underlying51 hi hz0 hz1 (by rw [hz2]; omega) g cap T nt HNT.out rfl (hro3.keep ((Chg.refl [] w3).alloc _) (by simp)) [r + 48] 1 rfl ⟨w3.heap.size, 0, none⟩ 1 rfl (cells_alloc w3 _ 5 .u8 [r + 48] (by simp [vals]; omega) (by simp)) (by omega) ?_)
        intro g' cap' w' hr' hg' hch'
        have hg2 : w.heap.size ≤ g' := by
          rcases hg' with h | h
          · rw [h]; exact hog
          · have := hch3.size; omega
        have hL' := (hL.keep ((Chg.refl [] w3).alloc _) (by simp)).keep hch' (by simpa using hgne)
        have hch2 : Chg [] w w' := (hch3.alloc _).fresh hch' hog
        have R := Lib.hid (FIN.out g' cap' w' (T ++ [r + 48]) rfl hr' hg2 hL' hch2)
        have hlen : (T ++ [r + 48]).length = nt + 1 := by simp [HNT.out]
        rw [hlen] at R
        clear hr' hg' hch' hg2 hL' hch2 hch3 hch hL hro hro3 hlen
        go_wp2_with fail
        go_roundg (lv 4294967296 L)
        case measure => exact hmes.out
        case rel => exact R.out
    · have hn0 : X.length = 0 := by rw [HNX.out]; omega
      have hx0 : x = 0 := by rw [← HX.out]; exact (lv_nil_iff (B := 4294967296) (by omega) nX).1 hn0
      have hu : Hid (u = lv 10 E) := by have := hO.value; rw [hx0] at this; show u = _; simpa using this
      have hEz := Lib.hid (HZ.out hx0)
      have dE := hO.digs
      clear hX hO hn0 HZ
      cases hB with
      | nil =>
        have hE0 : E = [] := List.eq_nil_of_length_eq_zero (by have := congrArg List.length HT.out; simpa [chr] using this)
        have hu0 : u = 0 := by rw [hu.out, hE0]; rfl
        have hd : Hid (Dec [48] u) := by rw [hu0]; exact ⟨rfl, rfl⟩
        clear hE0 hu0
        go_wp2_with fail
        go_ret
        exact ⟨_, rfl, hd.out, hch⟩
      | row g cap _ hro hog hne =>
        have hEne : E ≠ [] := by rintro rfl; exact hne HT.out.symm
        have hd := Dec_chr dE hEne (hEz.out.resolve_left hEne)
        rw [← hu.out] at hd
        have hTr : chr E.reverse = T.reverse := by rw [← HT.out]; simp [chr]
        rw [hTr] at hd
        have HD := Lib.hid hd
        obtain ⟨n, HN⟩ := name_it T.length
        have hn1 : 1 ≤ n := by rw [← HN.out]; exact List.length_pos_iff.2 hne
        have hnb : n ≤ 1099511627776 := by have h1 := HN.out; have h2 := congrArg List.length HT.out; simp [chr] at h2; omega
        rw [HN.out]
        clear hd hTr
        go_wp2_with fail
        go_loopw [6] (fun iv wr => ∃ (i : Nat) (M : List Nat), i ≤ n / 2 ∧ iv = .int .i64 i ∧ Rev T n i M ∧ Row 5 .u8 wr g cap M ∧ Chg [] w wr)
          (fun iv _ => n - (intOf iv).toNat)
        case atStart => exact ⟨0, T, Nat.zero_le _, rfl, ⟨HN.out, fun j h1 h2 => by omega, fun _ _ _ => rfl⟩, hro, hch⟩
        case round =>
          clear hro hch
          obtain ⟨i, M, hin, rfl, hR, hr, hch⟩ := hrel
          by_cases hlt : i < n / 2
          · have hc1 := hr.cell i (by rw [hR.len]; omega)
            have hc2 := hr.cell (n - 1 - i) (by rw [hR.len]; omega)
            have hf1 := hr.frozen i
            have hf2 := (hr.store i (M.getD (n - 1 - i) 0)).frozen (n - 1 - i)
            have HRS := Lib.hid (hR.step hlt)
            have hlm : Hid (M.length = n) := hR.len
            obtain ⟨a, HA⟩ := name_it (M.getD i 0)
            obtain ⟨b, HB⟩ := name_it (M.getD (n - 1 - i) 0)
            rw [HA.out] at hc1
            rw [HB.out] at hc2 hf2
            rw [HA.out, HB.out] at HRS
            clear hR
            go_wp2_with fail
            go_roundw
            case rel => exact ⟨i + 1, _, by omega, by go_num, HRS.out, (hr.store _ _).store _ _, (hch.setCell (.inr hog) _).setCell (.inr hog) _⟩
            case measure => simp [intOf]; omega
          · have hdn : Hid (M = T.reverse) := hR.done HN.out (by omega) hin
            have hlm := hR.len
            have hstr := run_str_off hr 0 n cap (by rw [hlm]; omega)
            have HDD : Hid (Dec (strOf (M.drop 0)).data.toList u) := by
              rw [List.drop_zero, hdn.out, strOf_list]; exact HD.out
            clear hlm hR
            go_wp2_with fail
            go_ret
            exact ⟨_, rfl, HDD.out, hch⟩

set_option maxRecDepth 20000 in
theorem natFormat_any (s : ByteArray) (w : World) (hs : s.size ≤ 68719476736) :
    Calls Tryz.prog 73 #[.string s] w fun e w' => ∃ t : ByteArray, e = .returned (.string t) ∧ Dec t.data.toList (val s) ∧ Chg [] w w' := by
  go_enter Tryz.func73, Tryz.ntmps73
  go_wp2_with fail
  refine (limbs_any s _ (by omega)).mono ?_
  rintro e w1 ⟨g, cap, X, rfl, hX, hg, dX, nX, vX, lX, c1⟩
  obtain ⟨u, HU⟩ := name_it (val s)
  rw [HU.out] at vX
  have VX := Lib.hid vX
  have hl : X.length ≤ 68719476736 := by omega
  obtain ⟨n, HN⟩ := name_it X.length
  rw [HN.out] at hl ⊢
  clear vX lX
  go_wp2_with fail
  rw [← HN.out]
  refine (written_row g cap X w1 u hX dX nX (by rw [HN.out]; exact hl) VX.out).mono ?_
  rintro e w2 ⟨t, rfl, ht, c2⟩
  have c3 := c1.then c2
  rw [← HU.out] at ht
  have HT := Lib.hid ht
  clear ht
  go_wp2_with fail
  go_ret
  exact ⟨t, rfl, HT.out, c3⟩

end Go.Proofs.YtogciehmdlfkfaaGreatDoor

/- Part R11. -/

namespace Go.Proofs.YtogciehmdlfkfaaGreatDoor
open Go.RowKit Nd

/-- A shifted left by s bits: i digits are done, the digit i holds the carry. -/
structure ShfI (A : List Nat) (s n i : Nat) (O : List Nat) : Prop where
  len : O.length = n + 1
  digs : dig 4294967296 O
  carry : O.getD i 0 < 2 ^ s
  rest : ∀ j, i < j → O.getD j 0 = 0
  value : win 4294967296 O 0 (i + 1) = lv 4294967296 (A.take i) * 2 ^ s

theorem shf_nat {B a p o hi lo V L P : Nat} (hv : V + P * o = L * p) (hx : hi * B + lo = a * p) : V + P * (lo + o) + P * B * hi = (L + P * a) * p := by
  grind

theorem ShfI.step {A O : List Nat} {s n i a x lo hi : Nat} (h : ShfI A s n i O) (hi' : i < n) (ha : A.getD i 0 = a) (hx : x = a * 2 ^ s) (hlo : lo = x % 4294967296) (hhi : hi = x / 4294967296)
    (hsum : lo + O.getD i 0 < 4294967296) (hh : hi < 2 ^ s) (hs : s ≤ 32) :
    ShfI A s n (i + 1) ((O.set i (lo + O.getD i 0)).set (i + 1) hi) := by
  have hl := h.len
  have hp : 2 ^ s ≤ 2 ^ 32 := Nat.pow_le_pow_right (by omega) hs
  refine ⟨by simp [hl], dig_set (dig_set h.digs _ _ hsum) _ _ (by omega), by rw [Nd.getD_set_eq (by simp [hl]; omega)]; exact hh, fun j hj => ?_, ?_⟩
  · rw [Nd.getD_set_ne (by omega), Nd.getD_set_ne (by omega)]; exact h.rest j (by omega)
  · have hv := h.value
    rw [win, Nat.zero_add] at hv
    rw [win, win, Nat.zero_add, Nat.zero_add, win_set_out _ _ _ _ _ _ (by omega), win_set_out _ _ _ _ _ _ (by omega), Nd.getD_set_eq (by simp [hl]; omega), Nd.getD_set_ne (by omega), Nd.getD_set_eq (by omega), lv_take_step, ha, Nat.pow_succ]
    exact shf_nat hv (by rw [hhi, hlo, ← hx]; omega)
theorem ShfI.done {A O : List Nat} {s n : Nat} (h : ShfI A s n n O) (hA : A.length = n) : lv 4294967296 O = lv 4294967296 A * 2 ^ s := by
  have := h.value
  rw [List.take_of_length_le (by omega), ← h.len, win_all] at this
  exact this
theorem ShfI.start (A : List Nat) (s n : Nat) : ShfI A s n 0 (List.replicate (n + 1) 0) := by
  refine ⟨by simp, dig_replicate (by omega) _, by simp [List.getD]; exact Nat.two_pow_pos s, fun j _ => ?_, by simp [win, List.getD]⟩
  simp [List.getD, List.getElem?_replicate]
  split <;> rfl

theorem shf_bits {a o s : Nat} (ha : a < 4294967296) (hs : s ≤ 31) (ho : o < 2 ^ s) :
    a * 2 ^ s ≤ 18446744073709551615 ∧ a * 2 ^ s / 4294967296 < 2 ^ s ∧ a * 2 ^ s % 4294967296 + o < 4294967296 ∧ bits BinOp.or IntKind.u32 (o : Int) ((a * 2 ^ s % 4294967296 : Nat) : Int) = ((a * 2 ^ s % 4294967296 + o : Nat) : Int) := by
  have h1 : 2 ^ s ≤ 2 ^ 31 := Nat.pow_le_pow_right (by omega) hs
  have h0 : 0 < 2 ^ s := Nat.two_pow_pos s
  have h2 : a * 2 ^ s ≤ 4294967295 * 2 ^ s := Nat.mul_le_mul_right _ (by omega)
  have h3 : 4294967296 = 2 ^ (32 - s) * 2 ^ s := by rw [← Nat.pow_add, show 32 - s + s = 32 by omega]
  have h4 : a * 2 ^ s % 4294967296 = (a % 2 ^ (32 - s)) * 2 ^ s := by
    rw [h3, Nat.mul_mod_mul_right]
  have h5 : a % 2 ^ (32 - s) < 2 ^ (32 - s) := Nat.mod_lt _ (Nat.two_pow_pos _)
  have h6 : (a % 2 ^ (32 - s) + 1) * 2 ^ s ≤ 2 ^ (32 - s) * 2 ^ s := Nat.mul_le_mul_right _ h5
  rw [Nat.succ_mul, ← h3] at h6
  rw [h4]
  refine ⟨by omega, by omega, by omega, ?_⟩
  have := or_u32' (a % 2 ^ (32 - s)) o s (by omega) (by omega) ho
  exact this

set_option maxRecDepth 20000 in
set_option maxHeartbeats 1000000 in
theorem shifted_row (g cap s : Nat) (A : List Nat) (w : World) (hA : Row 120 .u32 w g cap A) (dA : dig 4294967296 A) (la : A.length ≤ 1099511627775) (hs : s ≤ 31) :
    Calls Tryz.prog 175 #[.slice (some ⟨g, 0, none⟩) A.length cap, .int .u64 s] w fun e w' => ∃ (g' : Nat) (L : List Nat), e = .returned (.slice (some ⟨g', 0, none⟩) (A.length + 1) (A.length + 1)) ∧
      Row 120 .u32 w' g' (A.length + 1) L ∧ w.heap.size ≤ g' ∧ L.length = A.length + 1 ∧ dig 4294967296 L ∧ lv 4294967296 L = lv 4294967296 A * 2 ^ s ∧ Chg [] w w' := by
  obtain ⟨i0, hi, hz0, hz1, hz2⟩ := info_parts Tryz.info32
  obtain ⟨n, HN⟩ := name_it A.length
  have HS0 := Lib.hid (ShfI.start A s n)
  rw [HN.out] at la ⊢
  go_enter Tryz.func175, Tryz.ntmps175
  go_wp2_with (at_make; refine wpList_make_cap _ rfl (.tmp 10) (.tmp 10) 118 rfl 120 i0 .u32 Tryz.underlying118 hi hz0 hz1 .i64 .i64 _ _ (n + 1) (n + 1) rfl rfl (by simp) (by simp) (Nat.le_refl _) (by rw [hz2]; omega) (by omega) ?_)
  intro w1 hrow hch
  have hA1 := hA.keep hch (by simp)
  have hne : g ≠ w.heap.size := by have := hA.lt; omega
  obtain ⟨b, HB⟩ := name_it w.heap.size
  rw [HB.out] at hrow hne ⊢
  clear hi hz0 hz1 hz2 hA
  go_wp2_with fail
  go_loopw [6] (fun iv wr => ∃ (i : Nat) (O : List Nat), i ≤ n ∧ iv = .int .i64 i ∧ ShfI A s n i O ∧ Row 120 .u32 wr b (n + 1) O ∧ Row 120 .u32 wr g cap A ∧ Chg [] w wr)
    (fun iv _ => n - (intOf iv).toNat)
  case atStart => exact ⟨0, _, Nat.zero_le _, rfl, HS0.out, hrow, hA1, hch⟩
  case round =>
    clear hrow hA1 hch HS0
    obtain ⟨i, O, hin, rfl, hP, hr, hA, hch⟩ := hrel
    have hlen : Hid (O.length = n + 1) := hP.len
    by_cases hlt : i < n
    · have hca := hA.cell i (by rw [HN.out]; exact hlt)
      obtain ⟨a, HA⟩ := name_it (A.getD i 0)
      rw [HA.out] at hca
      have ha : a < 4294967296 := by rw [← HA.out]; exact dig_getD (by omega) dA i
      have hco := hr.cell i (by rw [hlen.out]; omega)
      have hfo := hr.frozen i
      have hst := fun x lo hi (h1 : x = a * 2 ^ s) (h2 : lo = x % 4294967296) (h3 : hi = x / 4294967296) => hP.step hlt HA.out h1 h2 h3
      have hcarry := hP.carry
      obtain ⟨o, HO⟩ := name_it (O.getD i 0)
      rw [HO.out] at hco hcarry
      obtain ⟨z1, z2, z3, z4⟩ := shf_bits (o := o) ha hs hcarry
      have e1 : ((a : Int) * 2 ^ s) = ((a * 2 ^ s : Nat) : Int) := by simp
      obtain ⟨x, HX⟩ := name_it (a * 2 ^ s)
      rw [HX.out] at z1 z2 z3 z4 e1
      have e2 : IntKind.u64.wrap ((a : Int) * 2 ^ s) = (x : Int) := by
        rw [e1]; simp [IntKind.wrap, IntKind.signed, IntKind.bits]; omega
      have hst2 := hst x _ _ HX.out.symm rfl rfl (by rw [HO.out]; exact z3) z2 (by omega)
      rw [HO.out] at hst2
      have e3 : ((x : Int) % 4294967296) = ((x % 4294967296 : Nat) : Int) := by simp
      obtain ⟨y, HY⟩ := name_it (x % 4294967296 + o)
      have hor : bits BinOp.or IntKind.u32 (o : Int) ((x : Int) % 4294967296) = (y : Int) := by rw [e3, z4, HY.out]
      rw [HY.out] at hst2
      obtain ⟨z, HZ⟩ := name_it (x / 4294967296)
      rw [HZ.out] at hst2
      have e4 : ((x : Int) / 4294967296) = (z : Int) := by rw [← HZ.out]; simp
      have hz32 : z < 4294967296 := by rw [← HZ.out]; omega
      have HST := Lib.hid hst2
      have hf2 := (hr.store i y).frozen (i + 1)
      have hco2 := (hr.store i y).cell (i + 1) (by simp [hlen.out]; omega)
      obtain ⟨old, HOLD⟩ := name_it ((O.set i y).getD (i + 1) 0)
      rw [HOLD.out] at hco2
      clear hst2 hst z2 z3 z4 e3 hP
      go_wp2_with fail
      go_roundw
      case rel => exact ⟨i + 1, _, by omega, by go_num, HST.out, (hr.store _ _).store _ _, (hA.other hne _).other hne _, (hch.setCell (.inr (by rw [← HB.out]; exact Nat.le_refl _)) _).setCell (.inr (by rw [← HB.out]; exact Nat.le_refl _)) _⟩
      case measure => simp [intOf]; omega
    · have hin' : n = i := by omega
      subst hin'
      have hv : Hid (lv 4294967296 O = lv 4294967296 A * 2 ^ s) := hP.done HN.out
      have dO := hP.digs
      clear hP
      go_wp2_with fail
      go_ret
      exact ⟨b, O, rfl, hr, by rw [← HB.out]; exact Nat.le_refl _, hlen.out, dO, hv.out, hch⟩

end Go.Proofs.YtogciehmdlfkfaaGreatDoor

/- Part R12. -/

namespace Go.Proofs.YtogciehmdlfkfaaGreatDoor
open Go.RowKit Nd

/-- The two leading digits of V, the three leading digits of U, and the quotient q of U and V. P is the power of B below them. -/
structure GuD (B v1 v2 top u3 U V q P : Nat) : Prop where
  hV1 : (v1 * B + v2) * P ≤ V
  hV2 : V < (v1 * B + v2 + 1) * P
  hU1 : (top * B + u3) * P ≤ U
  hU2 : U < (top * B + u3 + 1) * P
  q1 : q * V ≤ U
  q2 : U < (q + 1) * V
  qB : q < B
  v : 1 ≤ v1

theorem lt_of_mul {a b V U : Nat} (h1 : a * V ≤ U) (h2 : U < b * V) : a < b := by
  apply Classical.byContradiction
  intro h
  have : b * V ≤ a * V := Nat.mul_le_mul_right _ (by omega)
  omega

theorem gu_eq {B v1 v2 top guess rest : Nat} (h : guess * v1 + rest = top) : guess * (v1 * B + v2) + rest * B = top * B + guess * v2 := by
  subst h
  grind

/-- The guess is too great where the test says so. -/
theorem GuD.less {B v1 v2 top u3 U V q P guess rest : Nat} (h : GuD B v1 v2 top u3 U V q P) (hg : guess * v1 + rest = top) (hc : B ≤ guess ∨ rest * B + u3 < guess * v2) : q < guess := by
  rcases hc with hc | hc
  · have := h.qB; omega
  · have h1 := gu_eq (B := B) (v2 := v2) hg
    have h2 : top * B + u3 + 1 ≤ guess * (v1 * B + v2) := by omega
    have h3 : (top * B + u3 + 1) * P ≤ guess * (v1 * B + v2) * P := Nat.mul_le_mul_right _ h2
    have h4 : guess * ((v1 * B + v2) * P) ≤ guess * V := Nat.mul_le_mul_left _ h.hV1
    rw [← Nat.mul_assoc] at h4
    have h5 := h.hU2
    have h6 := h.q1
    exact lt_of_mul h6 (by omega)

/-- At the end it is the digit, or the digit and one. -/
theorem GuD.end_ {B v1 v2 top u3 U V q P guess rest : Nat} (h : GuD B v1 v2 top u3 U V q P) (hg : guess * v1 + rest = top) (hB : guess < B) (hc : guess * v2 ≤ rest * B + u3) : guess ≤ q + 1 := by
  have h1 := gu_eq (B := B) (v2 := v2) hg
  have h2 : guess * (v1 * B + v2) ≤ top * B + u3 := by omega
  have h3 : guess * (v1 * B + v2) * P ≤ (top * B + u3) * P := Nat.mul_le_mul_right _ h2
  have h4 : guess * V ≤ guess * ((v1 * B + v2 + 1) * P) := Nat.mul_le_mul_left _ (Nat.le_of_lt h.hV2)
  have h5 : guess * ((v1 * B + v2 + 1) * P) = guess * (v1 * B + v2) * P + guess * P := by rw [← Nat.mul_assoc, Nat.mul_add guess _ 1, Nat.mul_one, Nat.add_mul]
  have h6 : guess * P ≤ B * P := Nat.mul_le_mul_right _ (Nat.le_of_lt hB)
  have h7 : B * P ≤ V := by
    refine Nat.le_trans (Nat.mul_le_mul_right _ ?_) h.hV1
    have : 1 * B ≤ v1 * B := Nat.mul_le_mul_right _ h.v
    omega
  have h8 := h.hU1
  have h9 := h.q2
  have h10 : guess * V < (q + 2) * V := by
    rw [show q + 2 = q + 1 + 1 from rfl, Nat.add_mul (q + 1) 1 V, Nat.one_mul]
    omega
  have := Nat.lt_of_mul_lt_mul_right h10
  omega

/-- A break out of the loop: the guess is a digit, and the test would be false. -/
theorem gu_break {B v1 v2 top u3 guess rest : Nat} (hg : guess * v1 + rest = top) (ht : top < (v1 + 1) * B) (hr : B ≤ rest) (h2 : v2 < B) (_h1 : v1 < B) : guess < B ∧ guess * v2 ≤ rest * B + u3 := by
  have h3 : guess < B := by
    apply Classical.byContradiction
    intro h
    have h4 : B * v1 ≤ guess * v1 := Nat.mul_le_mul_right _ (by omega)
    rw [Nat.mul_comm B] at h4
    rw [Nat.add_mul, Nat.one_mul] at ht
    omega
  refine ⟨h3, ?_⟩
  have h5 : guess * v2 ≤ B * B := Nat.mul_le_mul (Nat.le_of_lt h3) (Nat.le_of_lt h2)
  have h6 : B * B ≤ rest * B := Nat.mul_le_mul_right _ hr
  omega

/-- The first guess is not too small. -/
theorem GuD.start {B v1 v2 top u3 U V q P : Nat} (h : GuD B v1 v2 top u3 U V q P) (_hB : 0 < B) (hu : u3 < B) : q ≤ top / v1 := by
  refine (Nat.le_div_iff_mul_le h.v).2 ?_
  apply Classical.byContradiction
  intro hc
  have h1 : (top + 1) * B ≤ q * v1 * B := Nat.mul_le_mul_right _ (by omega)
  rw [Nat.add_mul, Nat.one_mul] at h1
  have h2 : top * B + u3 + 1 ≤ q * v1 * B := by omega
  have h3 : (top * B + u3 + 1) * P ≤ q * v1 * B * P := Nat.mul_le_mul_right _ h2
  have h4 : q * ((v1 * B + v2) * P) ≤ q * V := Nat.mul_le_mul_left _ h.hV1
  have h5 : q * v1 * B * P ≤ q * ((v1 * B + v2) * P) := by
    have e : q * v1 * B * P = q * (v1 * B * P) := by grind
    rw [e]
    exact Nat.mul_le_mul_left _ (Nat.mul_le_mul_right _ (by omega))
  have h6 := h.hU2
  have h7 := h.q1
  omega

theorem win_two (B : Nat) (V : List Nat) (k : Nat) (hV : V.length = k + 2) : lv B V = (V.getD (k + 1) 0 * B + V.getD k 0) * B ^ k + win B V 0 k := by
  rw [← win_all, hV, win, win, Nat.zero_add, Nat.zero_add, Nat.pow_succ]
  generalize B ^ k = P
  generalize V.getD (k + 1) 0 = a
  generalize V.getD k 0 = b
  generalize win B V 0 k = z
  grind

theorem GuD.of_list {B : Nat} {L V : List Nat} {o k : Nat} (hB : 1 < B) (dL : dig B L) (dV : dig B V) (hV : V.length = k + 2) (hv : 1 ≤ V.getD (k + 1) 0) (hlt : win B L o (k + 3) < lv B V * B) :
    GuD B (V.getD (k + 1) 0) (V.getD k 0) (L.getD (o + (k + 2)) 0 * B + L.getD (o + (k + 1)) 0) (L.getD (o + k) 0) (win B L o (k + 3)) (lv B V) (win B L o (k + 3) / lv B V) (B ^ k) ∧
      L.getD (o + (k + 2)) 0 * B + L.getD (o + (k + 1)) 0 < (V.getD (k + 1) 0 + 1) * B := by
  have h1 := win_two B V k hV
  have h2 := win_top3 B L o k
  have h3 := win_lt B V 0 (by omega) dV k
  have h4 := win_lt B L o (by omega) dL k
  have h5 := dig_getD (by omega) dL (o + (k + 1))
  have h6 := dig_getD (by omega) dL (o + k)
  have h7 := dig_getD (by omega) dV k
  have hP : 0 < B ^ k := Nat.pow_pos (by omega)
  generalize win B L o (k + 3) = U at *
  generalize lv B V = W at *
  generalize V.getD (k + 1) 0 = v1 at *
  generalize V.getD k 0 = v2 at *
  generalize L.getD (o + (k + 2)) 0 = u2 at *
  generalize L.getD (o + (k + 1)) 0 = u1 at *
  generalize L.getD (o + k) 0 = u3 at *
  generalize win B V 0 k = z at *
  generalize win B L o k = y at *
  generalize B ^ k = P at *
  have hW : 0 < W := by
    have : 1 * 1 ≤ (v1 * B + v2) * P := Nat.mul_le_mul (by have : 1 * 1 ≤ v1 * B := Nat.mul_le_mul hv (by omega); omega) hP
    omega
  have e1 : (v1 * B + v2 + 1) * P = (v1 * B + v2) * P + P := by rw [Nat.add_mul _ 1 P, Nat.one_mul]
  have e2 : ((u2 * B + u1) * B + u3 + 1) * P = ((u2 * B + u1) * B + u3) * P + P := by rw [Nat.add_mul _ 1 P, Nat.one_mul]
  have hq := Nat.div_add_mod U W
  have hm := Nat.mod_lt U hW
  have hqB : U / W < B := (Nat.div_lt_iff_lt_mul hW).2 (by rw [Nat.mul_comm B]; exact hlt)
  refine ⟨⟨by omega, by omega, by omega, by omega, by rw [Nat.mul_comm]; omega, by rw [Nat.add_mul, Nat.one_mul, Nat.mul_comm]; omega, hqB, hv⟩, ?_⟩
  have hu : u2 < v1 + 1 := by
    apply Classical.byContradiction
    intro hc
    have a1 : (v1 + 1) * (B * B * P) ≤ u2 * (B * B * P) := Nat.mul_le_mul_right _ (by omega)
    have a2 : u2 * (B * B * P) ≤ ((u2 * B + u1) * B + u3) * P := by
      have : u2 * (B * B * P) = (u2 * B * B) * P := by grind
      rw [this]
      refine Nat.mul_le_mul_right _ ?_
      rw [Nat.add_mul]; omega
    have a3 : W * B ≤ (v1 + 1) * B * P * B := by
      refine Nat.mul_le_mul_right _ ?_
      have : (v1 * B + v2 + 1) * P ≤ (v1 + 1) * B * P := Nat.mul_le_mul_right _ (by rw [Nat.add_mul, Nat.one_mul]; omega)
      omega
    have a4 : (v1 + 1) * B * P * B = (v1 + 1) * (B * B * P) := by grind
    omega
  have : (u2 + 1) * B ≤ (v1 + 1) * B := Nat.mul_le_mul_right _ (by omega)
  rw [Nat.add_mul, Nat.one_mul] at this
  omega

end Go.Proofs.YtogciehmdlfkfaaGreatDoor

/- Part R13. -/

namespace Go.Proofs.YtogciehmdlfkfaaGreatDoor
open Go.RowKit Nd

theorem DivI.start2 {B : Nat} {U V : List Nat} {m t : Nat} (hB : 1 < B) (dU : dig B U) (hU : U.length = t + m) (hlt : lv B U < B ^ t * lv B V) (_hm0 : 1 ≤ m) :
    DivI B (lv B U) V (t + m) m t U (List.replicate t 0) := by
  have hw : lv B U = win B U 0 t + B ^ t * win B U t m := by
    rw [← win_all, hU, win_add, Nat.zero_add]
  refine ⟨hU, by simp, dU, dig_replicate (by omega) _, fun j hj => getD_ge _ _ (by omega), ?_, ?_⟩
  · have h1 : B ^ t * win B U t m < B ^ t * lv B V := by omega
    exact Nat.lt_of_mul_lt_mul_left h1
  · rw [List.drop_eq_nil_of_le (by simp), ← hU, win_all]; simp

theorem top_small {B n t s : Nat} {A C : List Nat} (hB : 1 < B) (dA : dig B A) (nC : noz C) (hC : C.length = n) (hn : 1 ≤ n) (hA : A.length + 1 = t + n) : lv B A * 2 ^ s < B ^ t * (lv B C * 2 ^ s) := by
  have h1 := lv_lt (by omega) A dA
  have h2 := lv_ge (B := B) C nC (by rintro rfl; simp at hC; omega)
  have h3 : B ^ A.length = B ^ t * B ^ (C.length - 1) := by rw [← Nat.pow_add]; congr 1; omega
  have h4 : B ^ t * B ^ (C.length - 1) ≤ B ^ t * lv B C := Nat.mul_le_mul_left _ h2
  rw [← Nat.mul_assoc]
  exact Nat.mul_lt_mul_of_pos_right (by omega) (Nat.two_pow_pos s)

theorem take_lv {B n : Nat} {L : List Nat} (hL : L.length = n + 1) (h : lv B L < B ^ n) : lv B (L.take n) = lv B L := by
  have h1 := lv_take_step B L n
  rw [List.take_of_length_le (by omega)] at h1
  have hx : L.getD n 0 = 0 := by
    apply Classical.byContradiction
    intro hc
    have : B ^ n * 1 ≤ B ^ n * L.getD n 0 := Nat.mul_le_mul_left _ (by omega)
    omega
  rw [hx, Nat.mul_zero] at h1
  omega
theorem shl_top {n t s : Nat} {C : List Nat} (dC : dig 4294967296 C) (hC : C.length = n + 1) (ht : C.getD n 0 = t) (hts : t * 2 ^ s < 4294967296) (hs : s ≤ 31) : lv 4294967296 C * 2 ^ s < 4294967296 ^ (n + 1) := by
  have h1 := lv_take_step 4294967296 C n
  rw [List.take_of_length_le (by omega), ht] at h1
  have h2 := lv_lt (B := 4294967296) (by omega) _ (dig_take dC n)
  have h3 : 4294967296 ^ (C.take n).length ≤ 4294967296 ^ n := Nat.pow_le_pow_right (by omega) (by rw [List.length_take]; omega)
  have h4 : 2 ^ (32 - s) * 2 ^ s = 4294967296 := by rw [← Nat.pow_add, show 32 - s + s = 32 by omega]
  have h5 : t < 2 ^ (32 - s) := by rw [← h4] at hts; exact Nat.lt_of_mul_lt_mul_right hts
  have h6 : lv 4294967296 C < 4294967296 ^ n * (t + 1) := by rw [Nat.mul_add, Nat.mul_one]; omega
  have h7 : 4294967296 ^ n * (t + 1) ≤ 4294967296 ^ n * 2 ^ (32 - s) := Nat.mul_le_mul_left _ h5
  have h8 : lv 4294967296 C * 2 ^ s < 4294967296 ^ n * 2 ^ (32 - s) * 2 ^ s := Nat.mul_lt_mul_of_pos_right (by omega) (Nat.two_pow_pos s)
  rw [Nat.mul_assoc, h4] at h8
  rw [Nat.pow_succ]
  exact h8

theorem top_pos {B n : Nat} {V : List Nat} (hB : 0 < B) (dV : dig B V) (hV : V.length = n + 1) (h : B ^ n ≤ lv B V) : 1 ≤ V.getD n 0 := by
  have h1 := lv_take_step B V n
  rw [List.take_of_length_le (by omega)] at h1
  have h2 := lv_lt hB _ (dig_take dV n)
  have h3 : B ^ (V.take n).length ≤ B ^ n := Nat.pow_le_pow_right hB (by rw [List.length_take]; omega)
  apply Classical.byContradiction
  intro hc
  rw [show V.getD n 0 = 0 by omega, Nat.mul_zero] at h1
  omega

theorem or_two {a b : Nat} (ha : a < 4294967296) (hb : b < 4294967296) : bits BinOp.or IntKind.u64 ((a : Int) * 4294967296) (b : Int) = ((a * 4294967296 + b : Nat) : Int) := by
  have := or_u64 a b 32 (by omega) (by omega) (by omega)
  simpa using this

theorem s_step {t s : Nat} (ht : 1 ≤ t) (h : t * 2 ^ s < 2147483648) : s + 1 ≤ 31 ∧ t * 2 ^ (s + 1) < 4294967296 := by
  have h1 : 1 * 2 ^ s ≤ t * 2 ^ s := Nat.mul_le_mul_right _ ht
  have h2 : s < 31 := (Nat.pow_lt_pow_iff_right (a := 2) (by omega)).1 (by omega : 2 ^ s < 2 ^ 31)
  rw [Nat.pow_succ, ← Nat.mul_assoc]
  omega

theorem and_mask (t : Nat) (ht : t ≤ 18446744073709551615) : bits BinOp.and IntKind.u64 (t : Int) 4294967295 = ((t % 4294967296 : Nat) : Int) := by
  have h1 : (BitVec.ofInt 64 (t : Int)).toNat = t := by
    rw [BitVec.ofInt_natCast, BitVec.toNat_ofNat]; exact Nat.mod_eq_of_lt (by omega)
  have h2 : (BitVec.ofInt 64 4294967295).toNat = 2 ^ 32 - 1 := by decide
  show IntKind.u64.wrap ((BitVec.ofInt 64 (t : Int) &&& BitVec.ofInt 64 4294967295).toNat : Int) = _
  rw [BitVec.toNat_and, h1, h2, Nat.and_two_pow_sub_one_eq_mod, IntKind.wrap_u64]
  omega

end Go.Proofs.YtogciehmdlfkfaaGreatDoor
