/-
  The law NaturalLong: its walk.
-/
import Derived.Test.YtnemodboceenfaaDoorL3
import Derived.Deep.RegionHeld3
namespace Go.Proofs.YtnemodboceenfaaDoor
open Go.RowKit Nd

/-- The digits that the law writes: the j-th is (j + f) mod 10. -/
structure Dg (f n i : Nat) (M : List Nat) : Prop where
  len : M.length = n
  out : ∀ j, j < i → M.getD j 0 = (j + f) % 10 + 48
theorem Dg.step {f n i : Nat} {M : List Nat} (h : Dg f n i M) (hi : i < n) : Dg f n (i + 1) (M.set i ((i + f) % 10 + 48)) := by
  refine ⟨by simpa using h.len, fun j hj => ?_⟩
  by_cases e : j = i
  · subst e; rw [Nd.getD_set_eq (by rw [h.len]; exact hi)]
  · rw [Nd.getD_set_ne e]; exact h.out j (by omega)

theorem list_eq' {a b : ByteArray} (h : a.data.toList = b.data.toList) : a = b := by
  cases a; cases b; simpa using h
theorem parsed_size {s t : ByteArray} (hc : canD s.data.toList = true) (ht : Is t (dv s.data.toList)) : t.size ≤ s.size := by
  have hall : s.data.toList.all isD = true := by simp only [canD, Bool.and_eq_true] at hc; exact hc.1.2
  refine Is_size ht s.size (Nat.lt_of_lt_of_le (dv_lt _ hall) ?_)
  rw [show s.data.toList.length = s.size by simp]
  exact Nat.pow_le_pow_left (by omega) _
theorem isD_num {x : Nat} (h : x < 10) : isD (UInt8.ofNat (x + 48)) = true := by
  simp [isD]
  omega
theorem canD_list (M : List Nat) (hne : M ≠ []) (hd : ∀ j, j < M.length → ∃ x, x < 10 ∧ M.getD j 0 = x + 48) (h0 : M.getD 0 0 ≠ 48) : canD (ofNums M) = true := by
  have hall : (ofNums M).all isD = true := by
    rw [List.all_eq_true]
    intro c hc
    obtain ⟨y, hy, rfl⟩ : ∃ y, y ∈ M ∧ UInt8.ofNat y = c := by simpa [ofNums] using hc
    obtain ⟨j, hj, rfl⟩ := List.getElem_of_mem hy
    obtain ⟨x, hx, e⟩ := hd j hj
    rw [getD_lt _ _ hj] at e
    rw [e]; exact isD_num hx
  cases M with
  | nil => exact absurd rfl hne
  | cons a M =>
    obtain ⟨x, hx, e⟩ := hd 0 (by simp)
    have ea : a = x + 48 := by simpa using e
    have hh2 : UInt8.ofNat a ≠ 48 := by
      intro h
      have := congrArg UInt8.toNat h
      rw [ea, UInt8.toNat_ofNat_of_lt' (by simp [UInt8.size]; omega)] at this
      simp at this h0
      omega
    have hh : (ofNums (a :: M)).head? = some (UInt8.ofNat a) := by simp [ofNums]
    simp only [canD, Bool.and_eq_true, Bool.not_eq_true', Bool.or_eq_true, decide_eq_true_eq]
    refine ⟨⟨by simp [ofNums], hall⟩, .inr (by rw [hh]; simpa using hh2)⟩

set_option maxRecDepth 20000 in
set_option maxHeartbeats 8000000 in
theorem long_nat (d f : Nat) (w : World) (hd : d < 65536) (hf : f < 256) :
    Calls Tryd.prog 11 #[.int .u16 d, .int .u8 f] w fun e w' => e = .returned (.bool true) ∧ Chg [] w w' := by
  obtain ⟨i0, hi, hz0, hz1, hz2⟩ := info_parts Tryd.info8
  obtain ⟨n, HN⟩ := name_it (1 + d % 2020)
  have hn : n ≤ 2020 := by have := HN.out; omega
  have hn1 : 1 ≤ n := by have := HN.out; omega
  have hdn : Hid ((1 : Int) + (d : Int) % 2020 = (n : Int)) := by show _ = _; have := HN.out; omega
  go_enter Tryd.func11, Tryd.ntmps11
  go_wp2_with (at_make; refine wpList_make_cap _ rfl (.tmp 14) (.tmp 14) 45 rfl 5 i0 .u8 Tryd.underlying45 hi hz0 hz1 .i64 .i64 _ _ n n rfl rfl (by have := HN.out; omega) (by have := HN.out; omega) (Nat.le_refl _) (by rw [hz2]; omega) (by omega) ?_)
  intro w1 hrow hch
  obtain ⟨b, HB⟩ := name_it w.heap.size
  rw [HB.out] at hrow
  try rw [HB.out]
  rw [hdn.out]
  clear hi hz0 hz1 hz2
  go_wp2_with fail
  go_loopw [18] (fun iv wr => ∃ (i : Nat) (M : List Nat), i ≤ n ∧ iv = .int .i64 i ∧ Dg f n i M ∧ Row 5 .u8 wr b n M ∧ Chg [] w wr)
    (fun iv _ => n - (intOf iv).toNat)
  case atStart => exact ⟨0, _, Nat.zero_le _, rfl, ⟨by simp, fun j h => by omega⟩, hrow, hch⟩
  case round =>
    clear hrow hch
    obtain ⟨i, M, hin, rfl, hD, hr, hch⟩ := hrel
    have HD := Lib.hid hD
    by_cases hlt : i < n
    · have hc := hr.cell i (by rw [hD.len]; exact hlt)
      have hf1 := hr.frozen i
      obtain ⟨old, HO⟩ := name_it (M.getD i 0)
      rw [HO.out] at hc
      have hst := Lib.hid (hD.step hlt)
      obtain ⟨x, HX⟩ := name_it ((i + f) % 10)
      rw [HX.out] at hst
      have hx10 : x < 10 := by have := HX.out; omega
      have hxi : Hid (((i : Int) + (f : Int)) % 10 = (x : Int)) := by show _ = _; have := HX.out; omega
      clear hD
      go_wp2_with fail
      go_roundw
      case rel =>
        have hx2 : (48 : Int) + ((i : Int) + (f : Int)) % 10 = ((x + 48 : Nat) : Int) := by have := hxi.out; omega
        rw [hx2]
        exact ⟨i + 1, _, by omega, by go_num, hst.out, hr.store _ _, hch.setCell (.inr (by rw [← HB.out]; exact Nat.le_refl _)) _⟩
      case measure => simp [intOf]; omega
    · have hin' : n = i := by omega
      subst hin'
      have hn0 : 0 < n := hn1
      by_cases hz : f % 10 = 0
      · have HC := Lib.hid (canD_list (M.set 0 49) (by intro h; have := congrArg List.length h; simp [hD.len] at this; omega)
          (fun j hj => by
            by_cases e : j = 0
            · subst e; exact ⟨1, by omega, by rw [Nd.getD_set_eq (by rw [hD.len]; exact hn1)]⟩
            · refine ⟨(j + f) % 10, Nat.mod_lt _ (by omega), ?_⟩
              rw [Nd.getD_set_ne e]; exact hD.out j (by simpa [hD.len] using hj))
          (by rw [Nd.getD_set_eq (by rw [hD.len]; exact hn1)]; decide))
        have hc := hr.cell 0 (by rw [hD.len]; exact hn1)
        have hc48 : (M.getD 0 0 : Int) = 48 := by rw [hD.out 0 hn1]; omega
        rw [hc48] at hc
        have hf1 := hr.frozen 0
        have hrow : Row 5 .u8 (wr.setCell ⟨b, 0, none⟩ (.int .u8 49)) b n (M.set 0 49) := hr.store 0 49
        have hch2 : Chg [] w (wr.setCell ⟨b, 0, none⟩ (.int .u8 49)) := hch.setCell (.inr (by rw [← HB.out]; exact Nat.le_refl _)) _
        obtain ⟨N, HNN⟩ := name_it (M.set 0 49)
        have hlen : Hid (N.length = n) := by show N.length = n; rw [← HNN.out]; simpa using hD.len
        have hstr := run_str hrow
        rw [HNN.out] at HC hrow hstr
        obtain ⟨s, HS⟩ := name_it (strOf N)
        have hsz : Hid (s.size = n) := by show s.size = n; rw [← HS.out, strOf_size]; exact hlen.out
        have hcan : Hid (canD s.data.toList = true) := by show _ = _; rw [← HS.out, strOf_list]; exact HC.out
        rw [hlen.out, HS.out] at hstr
        clear hD hr hch HD
        go_wp2_with fail
        obtain ⟨w5, HW5⟩ := name_it (wr.setCell ⟨b, 0, none⟩ (.int .u8 49))
        rw [HW5.out] at hrow hch2 hstr ⊢
        have hsz2 := hsz.out
        by_cases hbig : 2000 < n
        · refine (parse_long s _ (by omega) hcan.out (by omega)).mono ?_
          rintro e w6 ⟨rfl, rfl⟩
          clear hstr
          go_wp2_with fail
          refine (awake_any _).mono ?_
          rintro e w7 ⟨rfl, c7⟩
          have c8 := hch2.then c7
          clear c7
          go_wp2_with fail
          go_ret
          exact ⟨rfl, c8⟩
        · refine (parse_good s _ hcan.out (by omega)).mono ?_
          rintro e w6 ⟨t, rfl, ht, c6⟩
          have hrow6 := hrow.keep c6 (by simp)
          have hch6 := hch2.then c6
          have HT := Lib.hid ht
          clear ht c6 hch2 hrow hstr
          go_wp2_with fail
          have hsn : Hid (∀ w' : World, Row 5 .u8 w' b n N → (convert 45 9 (.slice (some ⟨b, 0, none⟩) n n)).run Tryd.prog w' = .ok (.string s) w') := by
            intro w' h'
            have := run_str h'
            rw [hlen.out, HS.out] at this
            exact this
          have hrow6 := hrow6.keep ((Chg.refl [] w6).drew) (by simp)
          have hch6 := hch6.drew
          have htt : Hid (t.size ≤ 68719476736) := by show _ ≤ _; have := parsed_size hcan.out HT.out; omega
          have hst6 := hsn.out _ hrow6
          clear hlt hin hn0 hz HNN hlen HS HN hdn hn hn1 hd hf HB
          go_region_held3 (fun w' => (convert 45 9 (.slice (some ⟨b, 0, none⟩) n n)).run Tryd.prog w' = .ok (.string s) w') (first | exact hst6 | exact hst7 | exact hst8) (first
            | (go_at_call 17
               refine (awake_any _).mono ?_
               rintro e w7 ⟨rfl, c7⟩
               have hrow7 := hrow6.keep c7 (by simp)
               have hch7 := hch6.then c7
               have hst7 := hsn.out _ hrow7
               clear hrow6 hch6 c7)
            | (go_at_call 39
               refine (format_any t _ htt.out).mono ?_
               rintro e w8 ⟨r, rfl, hr8, c8⟩
               rw [Is_val HT.out] at hr8
               obtain rfl : r = s := list_eq' (Dec_unique hr8 ⟨hcan.out, rfl⟩)
               have hst8 := hsn.out _ (hrow7.keep c8 (by simp))
               have hch8 := hch7.then c8
               clear c8 hr8))
          all_goals (go_wp2_with fail; go_ret; exact ⟨rfl, hch8⟩)
      · have HC := Lib.hid (canD_list M (by rintro rfl; have := hD.len; simp at this; omega)
          (fun j hj => ⟨(j + f) % 10, Nat.mod_lt _ (by omega), hD.out j (by rw [hD.len] at hj; exact hj)⟩)
          (by rw [hD.out 0 hn1]; simpa using hz))
        have hc := hr.cell 0 (by rw [hD.len]; exact hn1)
        obtain ⟨y, HY⟩ := name_it (M.getD 0 0)
        have hy : y ≠ 48 := by rw [← HY.out, hD.out 0 hn1]; simpa using hz
        rw [HY.out] at hc
        have hrow := hr
        have hch2 := hch
        obtain ⟨N, HNN⟩ := name_it M
        have hlen : Hid (N.length = n) := by show N.length = n; rw [← HNN.out]; exact hD.len
        have hstr := run_str hrow
        rw [HNN.out] at HC hrow hstr
        obtain ⟨s, HS⟩ := name_it (strOf N)
        have hsz : Hid (s.size = n) := by show s.size = n; rw [← HS.out, strOf_size]; exact hlen.out
        have hcan : Hid (canD s.data.toList = true) := by show _ = _; rw [← HS.out, strOf_list]; exact HC.out
        rw [hlen.out, HS.out] at hstr
        clear hD hr hch HD
        go_wp2_with fail
        obtain ⟨w5, HW5⟩ := name_it (wr)
        rw [HW5.out] at hrow hch2 hstr ⊢
        have hsz2 := hsz.out
        by_cases hbig : 2000 < n
        · refine (parse_long s _ (by omega) hcan.out (by omega)).mono ?_
          rintro e w6 ⟨rfl, rfl⟩
          clear hstr
          go_wp2_with fail
          refine (awake_any _).mono ?_
          rintro e w7 ⟨rfl, c7⟩
          have c8 := hch2.then c7
          clear c7
          go_wp2_with fail
          go_ret
          exact ⟨rfl, c8⟩
        · refine (parse_good s _ hcan.out (by omega)).mono ?_
          rintro e w6 ⟨t, rfl, ht, c6⟩
          have hrow6 := hrow.keep c6 (by simp)
          have hch6 := hch2.then c6
          have HT := Lib.hid ht
          clear ht c6 hch2 hrow hstr
          go_wp2_with fail
          have hsn : Hid (∀ w' : World, Row 5 .u8 w' b n N → (convert 45 9 (.slice (some ⟨b, 0, none⟩) n n)).run Tryd.prog w' = .ok (.string s) w') := by
            intro w' h'
            have := run_str h'
            rw [hlen.out, HS.out] at this
            exact this
          have hrow6 := hrow6.keep ((Chg.refl [] w6).drew) (by simp)
          have hch6 := hch6.drew
          have htt : Hid (t.size ≤ 68719476736) := by show _ ≤ _; have := parsed_size hcan.out HT.out; omega
          have hst6 := hsn.out _ hrow6
          clear hlt hin hn0 hz HNN hlen HS HN hdn hn hn1 hd hf HB
          go_region_held3 (fun w' => (convert 45 9 (.slice (some ⟨b, 0, none⟩) n n)).run Tryd.prog w' = .ok (.string s) w') (first | exact hst6 | exact hst7 | exact hst8) (first
            | (go_at_call 17
               refine (awake_any _).mono ?_
               rintro e w7 ⟨rfl, c7⟩
               have hrow7 := hrow6.keep c7 (by simp)
               have hch7 := hch6.then c7
               have hst7 := hsn.out _ hrow7
               clear hrow6 hch6 c7)
            | (go_at_call 39
               refine (format_any t _ htt.out).mono ?_
               rintro e w8 ⟨r, rfl, hr8, c8⟩
               rw [Is_val HT.out] at hr8
               obtain rfl : r = s := list_eq' (Dec_unique hr8 ⟨hcan.out, rfl⟩)
               have hst8 := hsn.out _ (hrow7.keep c8 (by simp))
               have hch8 := hch7.then c8
               clear c8 hr8))
          all_goals (go_wp2_with fail; go_ret; exact ⟨rfl, hch8⟩)

theorem long_any (d f : Int) (w : World) (hd : (Lit.int .u16 d).wf = true) (hf : (Lit.int .u8 f).wf = true) :
    Calls Tryd.prog 11 #[.int .u16 d, .int .u8 f] w fun e w' => e = .returned (.bool true) ∧ Chg [] w w' := by
  have hb : 0 ≤ d ∧ d ≤ 65535 := by simpa [Lit.wf, IntKind.min, IntKind.max, IntKind.signed, IntKind.bits] using hd
  have hc : 0 ≤ f ∧ f ≤ 255 := by simpa [Lit.wf, IntKind.min, IntKind.max, IntKind.signed, IntKind.bits] using hf
  obtain ⟨n, rfl⟩ := Int.eq_ofNat_of_zero_le hb.1
  obtain ⟨m, rfl⟩ := Int.eq_ofNat_of_zero_le hc.1
  exact long_nat n m w (by omega) (by omega)

end Go.Proofs.YtnemodboceenfaaDoor
