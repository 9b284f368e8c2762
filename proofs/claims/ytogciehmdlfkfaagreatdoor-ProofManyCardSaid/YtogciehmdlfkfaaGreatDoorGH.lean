/-
  Several parts put together: R6, R7, R8, R9.
-/
import Derived.Test.YtogciehmdlfkfaaGreatDoorGG
/- Part R6. -/

namespace Go.Proofs.YtogciehmdlfkfaaGreatDoor
open Go.RowKit Nd

/-- A + B into a new slice: i digits are done, c is carried. -/
structure PlI (A B : List Nat) (i c : Nat) (O : List Nat) : Prop where
  len : O.length = i
  digs : dig 4294967296 O
  carry : c ≤ 1
  value : lv 4294967296 O + 4294967296 ^ i * c = lv 4294967296 (A.take i) + lv 4294967296 (B.take i)
theorem PlI.step {A B O : List Nat} {i c x y : Nat} (h : PlI A B i c O) (dA : dig 4294967296 A) (dB : dig 4294967296 B) (hx : A.getD i 0 = x) (hy : B.getD i 0 = y) :
    PlI A B (i + 1) ((c + x + y) / 4294967296) (O ++ [(c + x + y) % 4294967296]) := by
  have hx2 : x < 4294967296 := by rw [← hx]; exact dig_getD (by omega) dA i
  have hy2 : y < 4294967296 := by rw [← hy]; exact dig_getD (by omega) dB i
  have hc := h.carry
  refine ⟨by simp [h.len], dig_append h.digs (dig_cons (Nat.mod_lt _ (by omega)) (dig_nil _)), by omega, ?_⟩
  rw [lv_snoc, h.len, lv_take_step, lv_take_step, hx, hy]
  have := add_step 4294967296 i _ c x y ((c + x + y) % 4294967296) ((c + x + y) / 4294967296) _ h.value (by omega)
  omega
theorem PlI.end_ {A B O : List Nat} {i c n : Nat} (h : PlI A B i c O) (dA : dig 4294967296 A) (dB : dig 4294967296 B) (hA : A.length ≤ n) (hB : B.length ≤ n) (hi : n + 1 ≤ i) : c = 0 := by
  have h1 := h.value
  have h2 := lv_lt (B := 4294967296) (by omega) _ (dig_take dA i)
  have h3 := lv_lt (B := 4294967296) (by omega) _ (dig_take dB i)
  have h4 : 4294967296 ^ (A.take i).length ≤ 4294967296 ^ n := Nat.pow_le_pow_right (by omega) (by rw [List.length_take]; omega)
  have h5 : 4294967296 ^ (B.take i).length ≤ 4294967296 ^ n := Nat.pow_le_pow_right (by omega) (by rw [List.length_take]; omega)
  have h6 : 4294967296 ^ (n + 1) ≤ 4294967296 ^ i := Nat.pow_le_pow_right (by omega) hi
  rw [Nat.pow_succ] at h6
  apply Classical.byContradiction
  intro hc
  have : 4294967296 ^ i * 1 ≤ 4294967296 ^ i * c := Nat.mul_le_mul_left _ (by omega)
  omega

/-- The slice that plus fills: nil, or a row of its own. -/
inductive Own (w0 w : World) : Value → List Nat → Prop
  | nil : Own w0 w (.slice none 0 0) []
  | row (g cap : Nat) (xs : List Nat) (h : Row 120 .u32 w g cap xs) (hg : w0.heap.size ≤ g) : Own w0 w (.slice (some ⟨g, 0, none⟩) xs.length cap) xs
theorem Own.sl {w0 w : World} {v : Value} {xs : List Nat} (h : Own w0 w v xs) : Sl w v xs := by
  cases h with
  | nil => exact Sl.nil
  | row g cap _ h _ => exact Sl.row g cap xs h

end Go.Proofs.YtogciehmdlfkfaaGreatDoor

/- Part R7. -/

namespace Go.Proofs.YtogciehmdlfkfaaGreatDoor
open Go.RowKit Nd

set_option maxRecDepth 20000 in
set_option maxHeartbeats 1000000 in
theorem digits_loop (s : ByteArray) (w : World) (hs : s.size ≤ 1099511627776) (r : Bool) (hr : r = canD s.data.toList)
    (hend : s.data.toList.all isD = true → (s.toList.isEmpty = true ∧ r = false) ∨ (s.toList.isEmpty = false ∧ ∃ h : 0 < s.size, (((s[0].toNat : Int) != 48) = true ∧ r = true) ∨ (((s[0].toNat : Int) != 48) = false ∧ ((s.size : Int) == 1) = r))) :
    Calls Tryz.prog 95 #[.string s] w fun e w' => e = .returned (.bool r) ∧ w = w' := by
  have HEND := Lib.hid hend
  have HR := Lib.hid hr
  clear hend hr
  go_enter Tryz.func95, Tryz.ntmps95
  go_wp2_with fail
  go_loop [3] (fun iv => ∃ k : Nat, k ≤ s.size ∧ iv = .int .i64 k ∧ (s.data.toList.take k).all isD = true) (fun iv => s.size - (intOf iv).toNat)
  case atStart => exact ⟨0, Nat.zero_le _, rfl, by simp⟩
  case round =>
    obtain ⟨k, hk, rfl, hall⟩ := hrel
    have HA := Lib.hid hall
    clear hall
    by_cases hlt : k < s.size
    · have hbad : isD s[k] = false → r = false := by
        intro h
        rw [HR.out]
        have := all_take_false s k hlt h
        simp [canD, this]
      have HBAD := Lib.hid hbad
      clear hbad
      by_cases c1 : s[k].toNat < 48
      · have hr : r = false := HBAD.out (by simp [isD]; omega)
        have c1' : (s[k].toNat : Int) < 48 := by omega
        subst hr
        go_wp2_with fail
        go_ret
        exact ⟨rfl, rfl⟩
      · by_cases c2 : 57 < s[k].toNat
        · have hr : r = false := HBAD.out (by simp [isD]; omega)
          have c1' : ¬ (s[k].toNat : Int) < 48 := by omega
          have c2' : 57 < (s[k].toNat : Int) := by omega
          subst hr
          go_wp2_with fail
          go_ret
          exact ⟨rfl, rfl⟩
        · have hst : Hid ((s.data.toList.take (k + 1)).all isD = true) := by
            show _ = _
            rw [take_step s k hlt, List.all_append, HA.out]
            simp [isD]; omega
          have c1' : ¬ (s[k].toNat : Int) < 48 := by omega
          have c2' : ¬ 57 < (s[k].toNat : Int) := by omega
          go_wp2_with fail
          go_round
          case rel => exact ⟨k + 1, by omega, by go_num, hst.out⟩
          case measure => simp [intOf]; omega
    · have hall : s.data.toList.all isD = true := by have := HA.out; rwa [List.take_of_length_le (by simp; omega)] at this
      rcases HEND.out hall with ⟨he, hr⟩ | ⟨he, h0, ⟨h1, hr⟩ | ⟨h1, hr⟩⟩
      · subst hr
        have he2 : (!s.toList.isEmpty) = false := by simp [he]
        clear hall
        go_wp2_with fail
        go_ret
        exact ⟨rfl, rfl⟩
      · subst hr
        have he2 : (!s.toList.isEmpty) = true := by simp [he]
        clear hall
        go_wp2_with fail
        go_ret
        exact ⟨rfl, rfl⟩
      · have he2 : (!s.toList.isEmpty) = true := by simp [he]
        clear hall
        cases r with
        | true =>
          go_wp2_with fail
          go_ret
          exact ⟨rfl, rfl⟩
        | false =>
          go_wp2_with fail
          go_ret
          exact ⟨rfl, rfl⟩

theorem digits_any (s : ByteArray) (w : World) (hs : s.size ≤ 1099511627776) :
    Calls Tryz.prog 95 #[.string s] w fun e w' => e = .returned (.bool (canD s.data.toList)) ∧ w = w' := by
  refine digits_loop s w hs _ rfl (fun hall => ?_)
  have hsz : s.size = s.data.toList.length := by simp
  by_cases he : s.toList.isEmpty = true
  · refine .inl ⟨he, ?_⟩
    rw [toList_data] at he
    simp [canD, he]
  · have he' : s.toList.isEmpty = false := by simpa using he
    have hne : s.data.toList.isEmpty = false := by rw [← toList_data]; exact he'
    have hpos : 0 < s.size := by
      rw [hsz]
      cases hl : s.data.toList with
      | nil => rw [hl] at hne; simp at hne
      | cons => simp
    have hg := byte_get s 0 hpos
    have hh : s.data.toList.head? = some s[0] := by rw [← hg, List.head?_eq_getElem?]
    refine .inr ⟨he', hpos, ?_⟩
    by_cases h2 : ((s[0].toNat : Int) == 48) = true
    · have h48 : s[0] = 48 := UInt8.toNat_inj.1 (by rw [beq_iff_eq] at h2; exact Int.ofNat_inj.1 h2)
      refine .inr ⟨by simp [bne, h2], ?_⟩
      rw [h48] at hh
      simp only [canD, hne, hall, hh]
      rw [← hsz]
      by_cases h1 : s.size = 1
      · simp [h1]
      · have : ((s.size : Int) == 1) = false := by rw [beq_eq_false_iff_ne]; omega
        simp [h1, this]
    · have h2' : ((s[0].toNat : Int) == 48) = false := by simpa using h2
      refine .inl ⟨by simp [bne, h2'], ?_⟩
      have h3 : s[0] ≠ 48 := by intro h; rw [h] at h2; exact h2 rfl
      simp [canD, hne, hall, hh, h3]

end Go.Proofs.YtogciehmdlfkfaaGreatDoor

/- Part R8. -/

namespace Go.Proofs.YtogciehmdlfkfaaGreatDoor
open Go.RowKit Nd

set_option maxRecDepth 20000 in
set_option maxHeartbeats 2000000 in
theorem value_any (s : ByteArray) (w : World) (hs : s.size ≤ 1099511627775) (hall : s.data.toList.all isD = true) :
    Calls Tryz.prog 124 #[.string s] w fun e w' => ∃ v, e = .returned v ∧ ∃ L, Sl w' v L ∧ dig 4294967296 L ∧ noz L ∧ lv 4294967296 L = dv s.data.toList ∧ L.length ≤ s.size ∧ Chg [] w w' := by
  obtain ⟨i0, hi, hz0, hz1, hz2⟩ := info_parts Tryz.info32
  obtain ⟨n, HN⟩ := name_it s.size
  have HALL := Lib.hid hall
  clear hall
  have hn : n ≤ 1099511627775 := by have := HN.out; omega
  go_enter Tryz.func124, Tryz.ntmps124
  go_wp2_with fail
  go_loopw [3, 4] (fun ov iv wr => ∃ (i : Nat) (L : List Nat), i ≤ n ∧ iv = .int .i64 i ∧ Own w wr ov L ∧ dig 4294967296 L ∧ noz L ∧ lv 4294967296 L = dv (s.data.toList.take i) ∧ L.length ≤ i ∧ Chg [] w wr)
    (fun _ iv _ => n - (intOf iv).toNat)
  case atStart => exact ⟨0, [], Nat.zero_le _, rfl, Own.nil, dig_nil _, noz_nil, by simp, Nat.le_refl _, Chg.refl _ _⟩
  case round =>
    obtain ⟨i, L, hile, rfl, hO, dL, nL, hv, hl, hch⟩ := hrel
    have HV := Lib.hid hv
    have NL := Lib.hid nL
    clear hv nL
    by_cases hlt : i < n
    · have hlt' : i < s.size := by rw [HN.out]; exact hlt
      have hc := List.all_eq_true.1 HALL.out s[i] (List.mem_of_getElem? (byte_get s i hlt'))
      simp only [isD, Bool.and_eq_true, decide_eq_true_eq] at hc
      obtain ⟨hc1, hc2⟩ := hc
      have hst : (s[i].toNat - 48) + 10 * lv 4294967296 L = dv (s.data.toList.take (i + 1)) := by
        rw [take_step s i hlt', dv_snoc, HV.out]
      obtain ⟨d, HD⟩ := name_it (s[i].toNat - 48)
      have hcc : (s[i].toNat : Int) - 48 = (d : Int) := by rw [← HD.out]; omega
      have hd9 : d ≤ 9 := by rw [← HD.out]; omega
      rw [HD.out] at hst
      have HST := Lib.hid hst
      clear hst
      cases hO with
      | nil =>
        by_cases hd0 : 0 < d
        · go_wp2_with fail
          go_loop [5, 6] (fun cv kv => cv = .int .u64 d ∧ kv = .int .i64 0) (fun _ _ => 0)
          case atStart => exact ⟨rfl, rfl⟩
          case round =>
            obtain ⟨rfl, rfl⟩ := hrel
            have hcm : ((d : Int) % 4294967296) = (d : Int) := by omega
            go_wp2_with (at_builtin; refine wpList_append_rownil _ rfl (.tmp 41) (.tmp 44) 118 rfl 120 i0 .u32 Tryz.underlying118 hi hz0 hz1 (by rw [hz2]; omega) rfl [d] (by simp) 1 rfl ⟨wr.heap.size, 0, none⟩ 1 rfl (cells_alloc wr _ 120 .u32 [d] rfl (by simp)) (by omega) ?_)
            intro g' cap' w' hr' hg' hch'
            have hg2 : w.heap.size ≤ g' := by have := hch.size; omega
            have hch2 : Chg [] w w' := (hch.alloc _).then hch'
            have hO' : Own w w' (.slice (some ⟨g', 0, none⟩) [d].length cap') [d] := Own.row g' cap' [d] hr' hg2
            clear hr' hg' hch' hch
            go_wp2_with fail
            go_roundw
            case rel => exact ⟨i + 1, [d], by omega, by go_num, hO', dig_cons (by omega) (dig_nil _), by simp [noz]; omega, by rw [← HST.out]; simp, by simp, hch2⟩
            case measure => simp [intOf]; omega
        · have hdz : d = 0 := by omega
          subst hdz
          go_wp2_with fail
          go_loop [5, 6] (fun cv kv => cv = .int .u64 0 ∧ kv = .int .i64 0) (fun _ _ => 0)
          case atStart => exact ⟨rfl, rfl⟩
          case round =>
            obtain ⟨rfl, rfl⟩ := hrel
            go_wp2_with fail
            go_roundw
            case rel => exact ⟨i + 1, [], by omega, by go_num, Own.nil, dig_nil _, noz_nil, by rw [← HST.out]; simp, by simp, hch⟩
            case measure => simp [intOf]; omega
      | row g cap _ hro hog =>
        obtain ⟨l, HL⟩ := name_it L.length
        have hll : l ≤ 1099511627776 := by have := HL.out; omega
        have hli : l ≤ i := by have := HL.out; omega
        rw [HL.out]
        go_wp2_with fail
        go_loopw [5, 6] (fun cv kv wr => ∃ (k c : Nat) (M : List Nat), k ≤ l ∧ kv = .int .i64 k ∧ cv = .int .u64 c ∧ ScM L 10 d k c M ∧ Row 120 .u32 wr g cap M ∧ Chg [] w wr)
          (fun _ kv _ => l - (intOf kv).toNat)
        case atStart => exact ⟨0, d, L, Nat.zero_le _, rfl, rfl, ScM.start 10 d dL (by omega), hro, hch⟩
        case round =>
          clear hro hch
          obtain ⟨k, c, M, hkl, rfl, rfl, hP, hr, hch⟩ := hrel
          by_cases hkl2 : k < l
          · have hcl := hr.cell k (by rw [hP.len, HL.out]; exact hkl2)
            have hfr := hr.frozen k
            have hLX := hP.other k (Nat.le_refl _)
            obtain ⟨x, HX⟩ := name_it (M.getD k 0)
            rw [HX.out] at hcl hLX
            have hx : x < 4294967296 := by rw [← HX.out]; exact dig_getD (by omega) hP.digs _
            have HS2 := Lib.hid (hP.step (by omega) hLX.symm dL (by rw [HL.out]; exact hkl2))
            have hcc2 := hP.carry
            clear hLX hP
            have e1 : Hid (((c : Int) + (x : Int) * 10) % 4294967296 = (((c + x * 10) % 4294967296 : Nat) : Int)) := by show _ = _; omega
            have e2 : Hid (((c : Int) + (x : Int) * 10) / 4294967296 = (((c + x * 10) / 4294967296 : Nat) : Int)) := by show _ = _; omega
            go_wp2_with fail
            go_roundw
            case rel =>
              rw [e1.out, e2.out]
              exact ⟨k + 1, _, _, by omega, by go_num, rfl, HS2.out, hr.store _ _, hch.setCell (.inr hog) _⟩
            case measure => simp [intOf]; omega
          · have hkn : k = L.length := by rw [HL.out]; omega
            have hDn : Hid (lv 4294967296 (M ++ [c]) = lv 4294967296 L * 10 + d) := by rw [hkn] at hP; exact hP.done
            have hml : Hid (M.length = l) := by show M.length = l; rw [hP.len]; exact HL.out
            have hcc2 := hP.carry
            have dM := hP.digs
            have hval : Hid (lv 4294967296 (M ++ [c]) = dv (s.data.toList.take (i + 1))) := by
              rw [hDn.out, ← HST.out]
              show lv 4294967296 L * 10 + d = d + 10 * lv 4294967296 L
              omega
            clear hkn hP
            by_cases hc0 : 0 < c
            · have hcm : ((c : Int) % 4294967296) = (c : Int) := by omega
              go_wp2_with (at_builtin; refine wpList_append_row _ rfl (.tmp 41) (.tmp 44) 118 rfl 120 i0 .u32 Tryz.underlying118 hi hz0 hz1 (by rw [hz2]; omega) g cap M l hml.out rfl (hr.keep ((Chg.refl [] wr).alloc _) (by simp)) [c] 1 rfl ⟨wr.heap.size, 0, none⟩ 1 rfl (cells_alloc wr _ 120 .u32 [c] rfl (by simp)) (by omega) ?_)
              intro g' cap' w' hr' hg' hch'
              have hg2 : w.heap.size ≤ g' := by
                rcases hg' with h | h
                · rw [h]; exact hog
                · have := hch.size; omega
              have hch2 : Chg [] w w' := (hch.alloc _).fresh hch' hog
              have hO' : Own w w' (.slice (some ⟨g', 0, none⟩) (M ++ [c]).length cap') (M ++ [c]) := Own.row g' cap' _ hr' hg2
              rw [List.length_append, hml.out] at hO'
              clear hr' hg' hch' hch hr
              go_wp2_with fail
              go_roundw
              case rel => exact ⟨i + 1, M ++ [c], by omega, by go_num, hO', dig_append dM (dig_cons hcc2 (dig_nil _)), by simp [noz]; omega, hval.out, by rw [List.length_append, hml.out]; simp; omega, hch2⟩
              case measure => simp [intOf]; omega
            · have hcz : c = 0 := by omega
              subst hcz
              have hO' : Own w wr (.slice (some ⟨g, 0, none⟩) M.length cap) M := Own.row g cap _ hr hog
              rw [hml.out] at hO'
              have hval2 : Hid (lv 4294967296 M = dv (s.data.toList.take (i + 1))) := by have := hval.out; rw [lv_snoc] at this; simpa [Hid] using this
              have hnz : Hid (noz M) := by
                refine noz_of_ge (B := 4294967296) (by omega) M dM fun hne => ?_
                have h1 := hDn.out
                rw [lv_snoc, Nat.mul_zero, Nat.add_zero] at h1
                have h2 : L ≠ [] := by
                  intro h
                  have h3 : l = 0 := by rw [← HL.out, h]; rfl
                  exact hne (List.eq_nil_of_length_eq_zero (by rw [hml.out, h3]))
                have h4 := lv_ge (B := 4294967296) L NL.out h2
                rw [HL.out] at h4
                rw [hml.out, h1]; omega
              go_wp2_with fail
              go_roundw
              case rel => exact ⟨i + 1, M, by omega, by go_num, hO', dM, hnz.out, hval2.out, by rw [hml.out]; omega, hch⟩
              case measure => simp [intOf]; omega
    · have hge : ¬ i < s.size := by rw [HN.out]; exact hlt
      have hE : Hid (lv 4294967296 L = dv s.data.toList) := by
        rw [HV.out, List.take_of_length_le (by simp; omega)]; rfl
      have hS := hO.sl
      have hlen : L.length ≤ s.size := by have := HN.out; omega
      clear hO
      go_wp2_with fail
      go_ret
      exact ⟨_, rfl, L, hS, dL, NL.out, hE.out, hlen, hch⟩

end Go.Proofs.YtogciehmdlfkfaaGreatDoor

/- Part R9. -/

namespace Go.Proofs.YtogciehmdlfkfaaGreatDoor
open Go.RowKit Nd

set_option maxRecDepth 20000 in
set_option maxHeartbeats 1000000 in
theorem short_row (g cap d : Nat) (X : List Nat) (w : World) (hX : Row 120 .u32 w g cap X) (dX : dig 4294967296 X) (lx : X.length ≤ 1099511627776) (hd0 : 0 < d) (hd : d < 4294967296) :
    Calls Tryz.prog 132 #[.slice (some ⟨g, 0, none⟩) X.length cap, .int .u32 d] w fun e w' => ∃ (g' c' r : Nat) (L : List Nat), e = .returned (.tuple #[.slice (some ⟨g', 0, none⟩) L.length c', .int .u32 r]) ∧
      Row 120 .u32 w' g' c' L ∧ w.heap.size ≤ g' ∧ L.length ≤ X.length ∧ dig 4294967296 L ∧ noz L ∧ lv 4294967296 L = lv 4294967296 X / d ∧ r = lv 4294967296 X % d ∧ Chg [] w w' := by
  obtain ⟨i0, hi, hz0, hz1, hz2⟩ := info_parts Tryz.info32
  obtain ⟨n, HN⟩ := name_it X.length
  have hs0 := ShI.start (d := d) (X := X) (L := List.replicate X.length 0) hd0 (by simp) (dig_replicate (by omega) _)
  rw [HN.out] at hs0 ⊢
  rw [HN.out] at lx
  have HS0 := Lib.hid hs0
  clear hs0
  go_enter Tryz.func132, Tryz.ntmps132
  go_wp2_with (at_make; refine wpList_make_cap _ rfl (.tmp 10) (.tmp 10) 118 rfl 120 i0 .u32 Tryz.underlying118 hi hz0 hz1 .i64 .i64 _ _ n n rfl rfl rfl rfl (Nat.le_refl _) (by rw [hz2]; omega) (by omega) ?_)
  intro w1 hrow hch
  have hX1 := hX.keep hch (by simp)
  have hne : g ≠ w.heap.size := by have := hX.lt; omega
  obtain ⟨b, HG⟩ := name_it w.heap.size
  rw [HG.out] at hrow hne ⊢
  clear hi hz0 hz1 hz2 hX
  go_wp2_with fail
  go_loopw [7, 8] (fun rv iv wr => ∃ (t r : Nat) (L : List Nat), t ≤ n ∧ iv = .int .i64 ((t : Int) - 1) ∧ rv = .int .u64 r ∧ ShI d X t r L ∧ Row 120 .u32 wr b n L ∧ Row 120 .u32 wr g cap X ∧ Chg [] w wr)
    (fun _ iv _ => (intOf iv + 1).toNat)
  case atStart => exact ⟨n, 0, _, Nat.le_refl _, rfl, rfl, HS0.out, hrow, hX1, hch⟩
  case round =>
    obtain ⟨t, r, L, ht, rfl, rfl, hP, hr, hx, hch⟩ := hrel
    clear hX1 hrow HS0
    by_cases ht0 : 1 ≤ t
    · obtain ⟨i, rfl⟩ : ∃ i, t = i + 1 := ⟨t - 1, by omega⟩
      have hii : ((i + 1 : Nat) : Int) - 1 = (i : Int) := by omega
      rw [hii]
      clear hii ht0
      have hcx := hx.cell i (by rw [HN.out]; omega)
      obtain ⟨x, HX⟩ := name_it (X.getD i 0)
      rw [HX.out] at hcx
      have hx1 : x < 4294967296 := by rw [← HX.out]; exact dig_getD (by omega) dX i
      have hcl := hr.cell i (by rw [hP.len, HN.out]; omega)
      have hfr := hr.frozen i
      obtain ⟨old, HO⟩ := name_it (L.getD i 0)
      rw [HO.out] at hcl
      have hst := hP.step (by rw [HN.out]; omega) HX.out dX
      have hr1 := hP.rest
      have hor : bits BinOp.or IntKind.u64 ((r : Int) * 4294967296) (x : Int) = ((r * 4294967296 + x : Nat) : Int) := by
        have := or_u64 r x 32 (by omega) (by omega) (by omega)
        simpa using this
      obtain ⟨T, HT⟩ := name_it (r * 4294967296 + x)
      rw [HT.out] at hor hst
      have hT : T ≤ 18446744073709551615 := by have := HT.out; omega
      obtain ⟨q, HQ⟩ := name_it (T / d)
      obtain ⟨s, HS⟩ := name_it (T % d)
      rw [HQ.out, HS.out] at hst
      have hq : (T : Int) / (d : Int) = (q : Int) := by rw [← HQ.out]; simp
      have hs : (T : Int) % (d : Int) = (s : Int) := by rw [← HS.out]; simp
      have hqb := hst.1
      have HST := Lib.hid hst.2
      have hsb : s < 4294967296 := by rw [← HS.out]; exact Nat.lt_trans (Nat.mod_lt _ hd0) hd
      clear hst hP
      go_wp2_with fail
      go_roundw
      case rel => exact ⟨i, s, L.set i q, by omega, rfl, by rw [hs], HST.out, hr.store _ _, hx.other hne _, hch.setCell (.inr (by rw [← HG.out]; exact Nat.le_refl _)) _⟩
      case measure => simp [intOf]
    · have ht1 : t = 0 := by omega
      subst ht1
      have hd2 := Lib.hid hP.done
      have hll : Hid (L.length = n) := by show L.length = n; rw [hP.len]; exact HN.out
      have dL := hP.digs
      have hr1 := hP.rest
      clear hP
      go_wp2_with fail
      rw [← hll.out]
      rw [← hll.out] at hr
      refine (strip_row b L.length L _ hr).mono ?_
      rintro e w3 ⟨rfl, rfl⟩
      have hrt : Row _ _ _ _ _ (trim L) := hr.take (tl L) (tl_le L)
      have hle := tl_le L
      have hrm : ((r : Int) % 4294967296) = (r : Int) := by omega
      go_wp2_with fail
      go_ret2
      exact ⟨b, L.length, r, trim L, by rw [trim_length]; rfl, hrt, by rw [← HG.out]; exact Nat.le_refl _, by rw [trim_length]; have := hll.out; omega, trim_dig dL, trim_noz L, by rw [lv_trim]; exact hd2.out.1, hd2.out.2, hch⟩

end Go.Proofs.YtogciehmdlfkfaaGreatDoor
