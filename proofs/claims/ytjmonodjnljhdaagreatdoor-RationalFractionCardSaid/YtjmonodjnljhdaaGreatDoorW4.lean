/-
  Walks: Subtract, Uint.
-/
import Derived.Test.YtjmonodjnljhdaaGreatDoorW3
namespace Go.Proofs.YtjmonodjnljhdaaGreatDoor
open Go.RowKit Nd

/-- A round of Subtract. -/
theorem sub_round {A B D : List Nat} {n k c d c' : Nat} (hk : k < n) (hD : D.length = k) (hdig : dig 256 D) (hS : lv 256 D + lv 256 (B.take k) = lv 256 (A.take k) + 256 ^ k * c)
    (hd : d + B.getD k 0 + c = A.getD k 0 + 256 * c') (hlt : d < 256) :
    (D ++ [d]).length = k + 1 ∧ dig 256 (D ++ [d]) ∧ lv 256 (D ++ [d]) + lv 256 (B.take (k + 1)) = lv 256 (A.take (k + 1)) + 256 ^ (k + 1) * c' ∧
    (List.replicate (n - k) 0 ++ D.reverse).set (n - 1 - k) d = List.replicate (n - (k + 1)) 0 ++ (D ++ [d]).reverse := by
  refine ⟨by simp [hD], dig_append hdig (dig_cons hlt (dig_nil _)), ?_, ?_⟩
  · rw [lv_snoc, hD, lv_take_step, lv_take_step]
    have := sub_step 256 k _ c _ _ d c' _ _ hS hd
    omega
  · obtain ⟨m, hm⟩ : ∃ m, n - k = m + 1 := ⟨n - k - 1, by omega⟩
    have e1 : n - 1 - k = m := by omega
    have e2 : n - (k + 1) = m := by omega
    rw [hm, e1, e2, List.replicate_succ', List.append_assoc, List.set_append_right _ _ (by simp)]
    simp

set_option maxRecDepth 20000 in
theorem subtract_less (a b : ByteArray) (w : World) (ha : a.size ≤ 1099511627776) (hb : b.size ≤ 1099511627776) (h : val a < val b) :
    Calls Tryz.prog 105 #[.string a, .string b] w fun e w' => e = .returned (.tuple #[.string ⟨#[]⟩, .bool false]) ∧ w = w' := by
  have ho := Lib.hid (ord_lt h)
  clear h
  go_enter Tryz.func105, Tryz.ntmps105
  go_wp2_with fail
  refine (compare_any a b _ ha hb).mono ?_
  rintro e w' ⟨rfl, rfl⟩
  rw [ho.out]
  go_wp2
  go_ret2
  exact ⟨rfl, rfl⟩

set_option maxRecDepth 20000 in
set_option maxHeartbeats 1000000 in
theorem subtract_any (a b : ByteArray) (w : World) (ha : a.size ≤ 1099511627776) (hb : b.size ≤ 1099511627776) (h : val b ≤ val a) :
    Calls Tryz.prog 105 #[.string a, .string b] w fun e w' => ∃ s, e = .returned (.tuple #[.string s, .bool true]) ∧ Is s (val a - val b) ∧ Chg [] w w' := by
  have HLE := Lib.hid h; clear h
  obtain ⟨r, HR⟩ := name_it (ord (val a) (val b))
  have hr : 0 ≤ r := by
    rw [← HR.out]; unfold ord; rw [if_neg (by have := HLE.out; omega)]; split <;> omega
  obtain ⟨i0, hi, hz0, hz1, hz2⟩ := info_parts Tryz.info8
  obtain ⟨n, HN⟩ := name_it a.size
  have hn3 : n ≤ 1099511627776 := by have := HN.out; omega
  go_enter Tryz.func105, Tryz.ntmps105
  go_wp2_with fail
  refine (compare_any a b _ ha hb).mono ?_
  rintro e w' ⟨rfl, rfl⟩
  rw [HR.out]
  go_wp2_with (at_make; refine wpList_make_full _ rfl (.tmp 15) (.tmp 15) 53 rfl 0 5 i0 (.int .u8 0) 1 Tryz.underlying53 hi hz0 hz1 .i64 .i64 _ _ n rfl rfl (by have := HN.out; omega) (by have := HN.out; omega) (by rw [hz2]; omega) (by unfold maxLen; omega) (Nat.zero_le _) ?_)
  intro w1 hown hgr
  have hrow : Row 5 .u8 w1 w.heap.size n (List.replicate n 0) := Row.of_make 0 (by simpa [toList_madeCells_one] using hown)
  have hch : Chg [] w w1 := Chg.of_grown hgr
  obtain ⟨g, HG⟩ := name_it w.heap.size
  rw [HG.out] at hrow ⊢
  clear hown hgr hi hz0 hz1 hz2
  go_wp2_with fail
  go_loopw [7, 19] (fun cv iv wr => ∃ (k c : Nat) (D : List Nat), k ≤ n ∧ iv = .int .i64 k ∧ cv = .int .i64 c ∧ D.length = k ∧ dig 256 D ∧
      lv 256 D + lv 256 ((R b).take k) = lv 256 ((R a).take k) + 256 ^ k * c ∧ c ≤ 1 ∧ Row 5 .u8 wr g n (List.replicate (n - k) 0 ++ D.reverse) ∧ Chg [] w wr)
    (fun _ iv _ => n - (intOf iv).toNat)
  case atStart => exact ⟨0, 0, [], Nat.zero_le _, rfl, rfl, rfl, dig_nil _, by simp, by omega, by simpa using hrow, hch⟩
  case round =>
    obtain ⟨k, c, D, hk, rfl, rfl, hD, hdig, hS, hc, hr, hchr⟩ := hrel
    have HD := Lib.hid hD; have HS := Lib.hid hS; clear hD hS hrow hch
    have hlen : (List.replicate (n - k) 0 ++ D.reverse).length = n := by simp [HD.out]; omega
    have HL := Lib.hid hlen; clear hlen
    by_cases hlt : k < n
    · have hA := R_lt a k
      have hB := R_lt b k
      obtain ⟨x, HX⟩ := name_it ((R a).getD k 0)
      obtain ⟨y, HY⟩ := name_it ((R b).getD k 0)
      have hx : x < 256 := by rw [← HX.out]; exact hA
      have hy : y < 256 := by rw [← HY.out]; exact hB
      have hfr : wr.frozen? ⟨g, n - 1 - k, none⟩ = false := hr.frozen _
      have hce := hr.cell (n - 1 - k) (by rw [HL.out]; omega)
      obtain ⟨old, HO⟩ := name_it ((List.replicate (n - k) 0 ++ D.reverse).getD (n - 1 - k) 0)
      rw [HO.out] at hce
      clear hA hB
      by_cases hneg : x < y + c
      · go_wp2_with (first | (go_at_call 111; (with_reducible refine (digit_any a k _ ha (by omega)).mono ?_); rintro e w' ⟨rfl, rfl⟩; rw [HX.out]) | (go_at_call 111; (with_reducible refine (digit_any b k _ hb (by omega)).mono ?_); rintro e w' ⟨rfl, rfl⟩; rw [HY.out]))
        have e1 : ((x : Int) - (y : Int) - (c : Int) + 256) = ((x + 256 - y - c : Nat) : Int) := by omega
        obtain ⟨r1, r2, r3, r4⟩ := sub_round (A := R a) (B := R b) (d := x + 256 - y - c) (c' := 1) hlt HD.out hdig HS.out (by rw [HX.out, HY.out]; omega) (by omega)
        go_roundw
        case rel =>
          refine ⟨k + 1, 1, D ++ [x + 256 - y - c], by omega, by go_num, rfl, r1, r2, r3, by omega, ?_, hchr.setCell (.inr (by rw [← HG.out]; exact Nat.le_refl _)) _⟩
          rw [← r4, e1]
          exact hr.store _ _
        case measure => simp [intOf]; omega
      · go_wp2_with (first | (go_at_call 111; (with_reducible refine (digit_any a k _ ha (by omega)).mono ?_); rintro e w' ⟨rfl, rfl⟩; rw [HX.out]) | (go_at_call 111; (with_reducible refine (digit_any b k _ hb (by omega)).mono ?_); rintro e w' ⟨rfl, rfl⟩; rw [HY.out]))
        have e1 : ((x : Int) - (y : Int) - (c : Int)) = ((x - y - c : Nat) : Int) := by omega
        obtain ⟨r1, r2, r3, r4⟩ := sub_round (A := R a) (B := R b) (d := x - y - c) (c' := 0) hlt HD.out hdig HS.out (by rw [HX.out, HY.out]; omega) (by omega)
        go_roundw
        case rel =>
          refine ⟨k + 1, 0, D ++ [x - y - c], by omega, by go_num, rfl, r1, r2, r3, by omega, ?_, hchr.setCell (.inr (by rw [← HG.out]; exact Nat.le_refl _)) _⟩
          rw [← r4, e1]
          exact hr.store _ _
        case measure => simp [intOf]; omega
    · obtain ⟨xs, HXS⟩ := name_it (List.replicate (n - k) 0 ++ D.reverse)
      rw [HXS.out] at hr
      have hl : Hid (xs.length = n) := by rw [← HXS.out]; exact HL.out
      have hstr := run_str hr
      rw [hl.out] at hstr
      have hnk : k = n := by omega
      have hx : dig 256 xs := by rw [← HXS.out]; exact dig_append (dig_replicate (by omega) _) (fun y hy => hdig y (by simpa using hy))
      have hv : Hid (val (strOf xs) = val a - val b) := by
        show val (strOf xs) = val a - val b
        have h1 := HS.out
        have hA : lv 256 ((R a).take k) = val a := by rw [lv_take_all _ _ _ (by rw [R_length, HN.out]; omega), lv_R]
        rw [hA] at h1
        have h2 : lv 256 D < 256 ^ k := by have := lv_lt (B := 256) (by omega) D hdig; rwa [HD.out] at this
        have h3 : val b = lv 256 ((R b).take k) + 256 ^ k * lv 256 ((R b).drop k) := by
          by_cases hkb : k ≤ (R b).length
          · rw [← lv_R, lv_take_drop 256 (R b) k hkb]
          · rw [← lv_R, List.take_of_length_le (by omega), List.drop_eq_nil_of_le (by omega)]; simp
        have h4 := HLE.out
        have h5 : val a < 256 ^ k := by have := val_lt a; rw [HN.out] at this; rwa [hnk]
        have h6 : lv 256 ((R b).drop k) = 0 := by
          apply Classical.byContradiction
          intro hc0
          have : 256 ^ k * 1 ≤ 256 ^ k * lv 256 ((R b).drop k) := Nat.mul_le_mul_left _ (by omega)
          omega
        have h7 : c = 0 := by
          apply Classical.byContradiction
          intro hc0
          have : 256 ^ k * 1 ≤ 256 ^ k * c := Nat.mul_le_mul_left _ (by omega)
          rw [h6] at h3
          omega
        rw [h6] at h3
        rw [h7] at h1
        rw [val_strOf _ hx, ← HXS.out, hnk, Nat.sub_self]
        simp
        omega
      clear hnk
      go_wp2_with (go_at_call 97; (with_reducible refine (normalize_any _ _ (by rw [strOf_size, hl.out]; omega)).mono ?_); rintro e w' ⟨rfl, rfl⟩)
      go_ret2
      exact ⟨_, rfl, by rw [← hv.out]; exact Is_nrmB _, hchr⟩

set_option maxRecDepth 20000 in
set_option maxHeartbeats 400000 in
theorem uint_any (s : ByteArray) (w : World) (hs : s.size ≤ 9223372036854775807) (h : val s < 18446744073709551616) :
    Calls Tryz.prog 62 #[.string s] w fun e w' => e = .returned (.tuple #[.int .u64 (val s : Nat), .bool true]) ∧ w = w' := by
  obtain ⟨p, HP⟩ := name_it (nrmB s)
  have hp1 : p.size ≤ 8 := by
    rw [← HP.out]; exact Is_size (Is_nrmB s) 8 (by simpa using h)
  have hpv : Hid (val p = val s) := by rw [← HP.out]; exact val_nrmB s
  have HV := Lib.hid h; clear h
  go_enter Tryz.func62, Tryz.ntmps62
  go_wp2_with fail
  refine (normalize_any s _ (by omega)).mono ?_
  rintro e w' ⟨rfl, rfl⟩
  rw [HP.out]
  go_wp2_with fail
  go_loop [4, 13] (fun uv iv => ∃ k : Nat, k ≤ p.size ∧ iv = .int .i64 k ∧ uv = .int .u64 (bv (p.data.toList.take k) : Nat)) (fun _ iv => p.size - (intOf iv).toNat)
  case atStart => exact ⟨0, Nat.zero_le _, rfl, rfl⟩
  case round =>
    obtain ⟨k, hk, rfl, rfl⟩ := hrel
    obtain ⟨u, HU⟩ := name_it (bv (p.data.toList.take k))
    rw [HU.out]
    by_cases hlt : k < p.size
    · have hb := p[k].toNat_lt
      have hu : u < 72057594037927936 := by
        rw [← HU.out]
        have h1 := bv_lt (p.data.toList.take k)
        have h2 : (p.data.toList.take k).length ≤ 7 := by rw [List.length_take]; omega
        have h3 : 256 ^ (p.data.toList.take k).length ≤ 256 ^ 7 := Nat.pow_le_pow_right (by omega) h2
        have h5 := Nat.lt_of_lt_of_le h1 h3
        rwa [show (256 : Nat) ^ 7 = 72057594037927936 from by decide] at h5
      have hor : bits BinOp.or IntKind.u64 ((u : Int) * 256) (p[k].toNat : Int) = ((u * 256 + p[k].toNat : Nat) : Int) := by
        have := or_u64 u p[k].toNat 8 (by omega) (by omega) (by omega)
        simpa using this
      have HE : Hid (u * 256 + p[k].toNat = bv (p.data.toList.take (k + 1))) := by
        have h1 : p.data.toList.take (k + 1) = p.data.toList.take k ++ [p[k]] := by
          rw [List.take_succ_eq_append_getElem (by simpa using hlt)]; rfl
        rw [h1, bv_snoc, HU.out]
        show u * 256 + p[k].toNat = p[k].toNat + 256 * u
        omega
      go_wp2
      go_round
      case rel => exact ⟨k + 1, by omega, by go_num, by rw [← HE.out]; rfl⟩
      case measure => simp [intOf]; omega
    · have HE : Hid (u = val s) := by
        rw [← hpv.out, ← HU.out, val, List.take_of_length_le (by simp; omega)]
        rfl
      go_wp2
      go_ret2
      exact ⟨by rw [← HE.out]; rfl, rfl⟩

set_option maxRecDepth 20000 in
set_option maxHeartbeats 400000 in
theorem uint_great (s : ByteArray) (w : World) (hs : s.size ≤ 9223372036854775807) (h : 18446744073709551616 ≤ val s) :
    Calls Tryz.prog 62 #[.string s] w fun e w' => e = .returned (.tuple #[.int .u64 0, .bool false]) ∧ w = w' := by
  obtain ⟨p, HP⟩ := name_it (nrmB s)
  have hp2 : p.size ≤ 9223372036854775807 := by rw [← HP.out]; exact Nat.le_trans (nrmB_size s) hs
  have hp1 : 8 < p.size := by
    apply Classical.byContradiction
    intro hc
    have h1 := val_lt p
    have h2 : 256 ^ p.size ≤ 256 ^ 8 := Nat.pow_le_pow_right (by omega) (by omega)
    rw [← HP.out, val_nrmB] at h1
    rw [← HP.out] at h2
    simp at h2
    omega
  clear h
  go_enter Tryz.func62, Tryz.ntmps62
  go_wp2_with fail
  refine (normalize_any s _ (by omega)).mono ?_
  rintro e w' ⟨rfl, rfl⟩
  rw [HP.out]
  go_wp2_with fail
  go_ret2
  exact ⟨rfl, rfl⟩
end Go.Proofs.YtjmonodjnljhdaaGreatDoor
