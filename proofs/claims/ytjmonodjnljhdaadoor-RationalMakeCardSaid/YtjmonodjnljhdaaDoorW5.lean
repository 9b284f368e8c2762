/-
  Walks: fromLimbs, toLimbs, FromUint.
-/
import Derived.Test.YtjmonodjnljhdaaDoorW4
namespace Go.Proofs.YtjmonodjnljhdaaDoor
open Go.RowKit Nd

/-- A slice value of uint32: nil, or at the head of a row. -/
inductive Sl (w : World) : Value → List Nat → Prop
  | nil : Sl w (.slice none 0 0) []
  | row (g cap : Nat) (xs : List Nat) (h : Row 77 .u32 w g cap xs) : Sl w (.slice (some ⟨g, 0, none⟩) xs.length cap) xs

set_option maxRecDepth 20000 in
set_option maxHeartbeats 1000000 in
theorem fromLimbs_row (g cap : Nat) (xs : List Nat) (w : World) (hr : Row 77 .u32 w g cap xs) (hd : dig 4294967296 xs) (hn : xs.length ≤ 1099511627776) :
    Calls Tryd.prog 32 #[.slice (some ⟨g, 0, none⟩) xs.length cap] w fun e w' => ∃ s, e = .returned (.string s) ∧ Is s (lv 4294967296 xs) ∧ Chg [] w w' := by
  obtain ⟨i0, hi, hz0, hz1, hz2⟩ := info_parts Tryd.info8
  have hfit := hr.fits
  have hrt := hr.take (tl xs) (tl_le xs)
  have hdt := trim_dig hd
  have hlt : (trim xs).length = tl xs := trim_length xs
  change Row _ _ _ _ _ (trim xs) at hrt
  obtain ⟨ys, HY⟩ := name_it (trim xs)
  have hv : Hid (lv 4294967296 ys = lv 4294967296 xs) := by rw [← HY.out]; exact lv_trim _ _
  rw [HY.out] at hrt hdt hlt
  have hlen : ys.length ≤ 1099511627776 := by have := tl_le xs; omega
  obtain ⟨n, HN⟩ := name_it (4 * ys.length)
  have hn4 : n ≤ 4398046511104 := by have := HN.out; omega
  have hcells := fun j hj => hr.cell j hj
  have HLT := Lib.hid hlt; clear hlt
  go_enter Tryd.func32, Tryd.ntmps32
  go_wp2_with fail
  refine (trim_row g 0 cap xs _ hfit.1 hfit.2 (fun j hj => by simpa using hcells j hj)).mono ?_
  rintro e w' ⟨rfl, rfl⟩
  rw [← HLT.out]
  clear hcells hr hd hn
  go_wp2_with (at_make; refine wpList_make_full _ rfl (.tmp 9) (.tmp 9) 82 rfl 0 5 i0 (.int .u8 0) 1 Tryd.underlying82 hi hz0 hz1 .i64 .i64 _ _ n rfl rfl (by have := HN.out; omega) (by have := HN.out; omega) (by rw [hz2]; omega) (by unfold maxLen; omega) (Nat.zero_le _) ?_)
  intro w1 hown hgr
  have hrow : Row 5 .u8 w1 w.heap.size n (List.replicate n 0) := Row.of_make 0 (by simpa [toList_madeCells_one] using hown)
  have hch : Chg [] w w1 := Chg.of_grown hgr
  have hne : g ≠ w.heap.size := by have := hrt.lt; omega
  have hrt1 := hrt.keep hch (by simp)
  obtain ⟨b, HG⟩ := name_it w.heap.size
  rw [HG.out] at hrow hne ⊢
  clear hown hgr hi hz0 hz1 hz2
  have HBL : Hid ((bytesOf ys).length = n) := by rw [← HN.out]; exact bytesOf_length ys
  go_wp2_with fail
  go_loopw [13] (fun iv wr => ∃ (k : Nat), k ≤ n ∧ iv = .int .i64 k ∧ Row 5 .u8 wr b n (List.replicate (n - k) 0 ++ ((bytesOf ys).take k).reverse) ∧ Row 77 .u32 wr g cap ys ∧ Chg [] w wr)
    (fun iv _ => n - (intOf iv).toNat)
  case atStart => exact ⟨0, Nat.zero_le _, rfl, by simpa using hrow, hrt1, hch⟩
  case round =>
    obtain ⟨k, hk, rfl, hr, hry, hchr⟩ := hrel
    clear hrow hrt1 hch hrt
    have hlen' : (List.replicate (n - k) 0 ++ ((bytesOf ys).take k).reverse).length = n := by
      have := HBL.out
      simp; omega
    have HL := Lib.hid hlen'; clear hlen'
    by_cases hlt : k < n
    · have hq1 : k / 4 < ys.length := by have := HN.out; omega
      have hcy := hry.cell (k / 4) hq1
      obtain ⟨x, HX⟩ := name_it (ys.getD (k / 4) 0)
      rw [HX.out] at hcy
      have hfr : wr.frozen? ⟨b, n - 1 - k, none⟩ = false := hr.frozen _
      have hce := hr.cell (n - 1 - k) (by rw [HL.out]; omega)
      obtain ⟨old, HO⟩ := name_it ((List.replicate (n - k) 0 ++ ((bytesOf ys).take k).reverse).getD (n - 1 - k) 0)
      rw [HO.out] at hce
      have e1 : Hid ((x : Int) / 2 ^ (8 * (k % 4)) % 256 = (((bytesOf ys).getD k 0 : Nat) : Int)) := by
        have := bytesOf_get ys (k / 4) (k % 4) (by omega)
        rw [show 4 * (k / 4) + k % 4 = k by omega, HX.out] at this
        rw [this, show (256 : Nat) = 2 ^ 8 from rfl, ← Nat.pow_mul]
        show _ = _
        simp
      go_wp2
      go_roundw
      case rel =>
        refine ⟨k + 1, by omega, by go_num, ?_, hry.keep (gs := [b]) ⟨rfl, rfl, rfl, by simp, fun j _ hj => Below.heap_setCell _ _ _ _ (by simpa using hj)⟩ (by simpa using hne), hchr.setCell (.inr (by rw [← HG.out]; exact Nat.le_refl _)) _⟩
        rw [take_snoc (bytesOf ys) 0 k (by rw [HBL.out]; exact hlt), ← fill_back hlt, e1.out]
        exact hr.store _ _
      case measure => simp [intOf]; omega
    · obtain ⟨zs, HZS⟩ := name_it (List.replicate (n - k) 0 ++ ((bytesOf ys).take k).reverse)
      rw [HZS.out] at hr
      have hl : Hid (zs.length = n) := by rw [← HZS.out]; exact HL.out
      have hstr := run_str hr
      rw [hl.out] at hstr
      have hvz : Hid (val (strOf zs) = lv 4294967296 xs) := by
        have hzs : zs = (bytesOf ys).reverse := by
          rw [← HZS.out, show n - k = 0 by omega, List.take_of_length_le (by rw [HBL.out]; omega)]; simp
        show val (strOf zs) = _
        rw [val_strOf _ (by rw [hzs]; exact fun y hy => bytesOf_dig ys y (by simpa using hy)), hzs, List.reverse_reverse, lv_bytesOf _ hdt, hv.out]
      go_wp2_with (go_at_call 47; (with_reducible refine (normalize_any _ _ (by rw [strOf_size, hl.out]; omega)).mono ?_); rintro e w' ⟨rfl, rfl⟩)
      go_ret
      exact ⟨_, rfl, by rw [← hvz.out]; exact Is_nrmB _, hchr⟩
set_option maxRecDepth 20000 in
set_option maxHeartbeats 400000 in
theorem fromLimbs_nil (w : World) :
    Calls Tryd.prog 32 #[.slice none 0 0] w fun e w' => ∃ s, e = .returned (.string s) ∧ Is s 0 ∧ Chg [] w w' := by
  obtain ⟨i0, hi, hz0, hz1, hz2⟩ := info_parts Tryd.info8
  go_enter Tryd.func32, Tryd.ntmps32
  go_wp2_with fail
  refine (trim_nil _).mono ?_
  rintro e w' ⟨rfl, rfl⟩
  go_wp2_with (at_make; refine wpList_make_full _ rfl (.tmp 9) (.tmp 9) 82 rfl 0 5 i0 (.int .u8 0) 1 Tryd.underlying82 hi hz0 hz1 .i64 .i64 _ _ 0 rfl rfl (by omega) (by omega) (by omega) (by unfold maxLen; omega) (Nat.zero_le _) ?_)
  intro w1 hown hgr
  have hrow : Row 5 .u8 w1 w.heap.size 0 [] := by unfold Row; simpa [toList_madeCells_one, vals] using hown
  have hch : Chg [] w w1 := Chg.of_grown hgr
  obtain ⟨b, HG⟩ := name_it w.heap.size
  rw [HG.out] at hrow ⊢
  clear hown hgr hi hz0 hz1 hz2
  have hstr := run_str hrow
  have H0 : Hid (val (strOf []) = 0) := by show val (strOf []) = 0; rw [val_strOf _ (dig_nil _)]; rfl
  go_wp2_with fail
  go_loop [13] (fun iv => iv = .int .i64 0) (fun _ => 0)
  case atStart => rfl
  case round =>
    obtain rfl := hrel
    simp only [List.length_nil] at hstr
    go_wp2_with (go_at_call 47; (with_reducible refine (normalize_any _ _ (by rw [strOf_size]; simp)).mono ?_); rintro e w' ⟨rfl, rfl⟩)
    go_ret
    exact ⟨_, rfl, by rw [← H0.out]; exact Is_nrmB _, hch⟩

/-- The digits of a slice in base 2^32 as a string. -/
theorem fromLimbs_any {v : Value} {xs : List Nat} (w : World) (h : Sl w v xs) (hd : dig 4294967296 xs) (hn : xs.length ≤ 1099511627776) :
    Calls Tryd.prog 32 #[v] w fun e w' => ∃ s, e = .returned (.string s) ∧ Is s (lv 4294967296 xs) ∧ Chg [] w w' := by
  cases h with
  | nil => exact fromLimbs_nil w
  | row g cap _ hr => exact fromLimbs_row g cap xs w hr hd hn

set_option maxRecDepth 20000 in
theorem fromUint_any (u : Nat) (w : World) (hu : u < 18446744073709551616) :
    Calls Tryd.prog 36 #[.int .u64 u] w fun e w' => ∃ s, e = .returned (.string s) ∧ Is s u ∧ Chg [] w w' := by
  go_enter Tryd.func36, Tryd.ntmps36
  go_wp2_with fail
  have hrow : Row 77 .u32 (w.alloc (Obj.cells #[Value.int IntKind.u32 (↑u % 4294967296), Value.int IntKind.u32 (↑u / 4294967296)] 77)) w.heap.size 2 [u % 4294967296, u / 4294967296] :=
    Row.of_alloc w _ [u % 4294967296, u / 4294967296] (by simp [vals]) (by simp)
  have hd : dig 4294967296 [u % 4294967296, u / 4294967296] := dig_cons (by omega) (dig_cons (by omega) (dig_nil _))
  refine (fromLimbs_row w.heap.size 2 _ _ hrow hd (by simp)).mono ?_
  rintro e w1 ⟨s, rfl, hs, hc⟩
  have hch : Chg [] w w1 := ((Chg.refl [] w).alloc _).then hc
  clear hc hrow hd
  have HS : Hid (Is s u) := by
    have : lv 4294967296 [u % 4294967296, u / 4294967296] = u := by simp; omega
    rwa [this] at hs
  clear hs
  go_wp2_with fail
  go_ret
  exact ⟨_, rfl, HS.out, hch⟩

set_option maxRecDepth 20000 in
set_option maxHeartbeats 1000000 in
theorem toLimbs_any (s : ByteArray) (w : World) (hs : s.size ≤ 1099511627776) :
    Calls Tryd.prog 30 #[.string s] w fun e w' => ∃ g cap xs, e = .returned (.slice (some ⟨g, 0, none⟩) xs.length cap) ∧ Row 77 .u32 w' g cap xs ∧ w.heap.size ≤ g ∧
      dig 4294967296 xs ∧ noz xs ∧ lv 4294967296 xs = val s ∧ 4 * xs.length ≤ s.size + 3 ∧ Chg [] w w' := by
  obtain ⟨p, HP⟩ := name_it (nrmB s)
  have hp1 : p.size ≤ 1099511627776 := by rw [← HP.out]; exact Nat.le_trans (nrmB_size s) hs
  obtain ⟨n, HN⟩ := name_it ((p.size + 3) / 4)
  have hn3 : n ≤ 1099511627776 := by have := HN.out; omega
  obtain ⟨i0, hi, hz0, hz1, hz2⟩ := info_parts Tryd.info32
  go_enter Tryd.func30, Tryd.ntmps30
  go_wp2_with fail
  refine (normalize_any s _ (by omega)).mono ?_
  rintro e w' ⟨rfl, rfl⟩
  rw [HP.out]
  go_wp2_with (at_make; refine wpList_make_cap _ rfl (.tmp 10) (.tmp 15) 50 rfl 77 i0 .u32 Tryd.underlying50 hi hz0 hz1 .i64 .i64 _ _ n (n + 1) rfl rfl (by have := HN.out; omega) (by have := HN.out; omega) (by omega) (by rw [hz2]; omega) (by omega) ?_)
  intro w1 hrow hch
  obtain ⟨g, HG⟩ := name_it w.heap.size
  rw [HG.out] at hrow ⊢
  clear hi hz0 hz1 hz2
  have hpn : Hid (nolead p.data.toList) := by rw [← HP.out]; exact (Is_nrmB s).2
  have hpv : Hid (val p = val s) := by rw [← HP.out]; exact val_nrmB s
  go_wp2_with fail
  go_loopw [19] (fun iv wr => ∃ (k : Nat) (L : List Nat), k ≤ p.size ∧ iv = .int .i64 k ∧ Pack (R p) n k L ∧ Row 77 .u32 wr g (n + 1) L ∧ Chg [] w wr)
    (fun iv _ => p.size - (intOf iv).toNat)
  case atStart => exact ⟨0, List.replicate n 0, Nat.zero_le _, rfl, Pack.start _ _, hrow, hch⟩
  case round =>
    obtain ⟨k, L, hk, rfl, hP, hr, hchr⟩ := hrel
    clear hrow hch
    by_cases hlt : k < p.size
    · have hq1 : k / 4 < L.length := by have := HN.out; rw [hP.len]; omega
      have hq2 : k / 4 < n := by have := HN.out; omega
      have hcy := hr.cell (k / 4) hq1
      have hfr : wr.frozen? ⟨g, k / 4, none⟩ = false := hr.frozen _
      have hg := R_get p k (p.size - 1 - k) (by omega)
      have HGT := Lib.hid hg; clear hg
      have hb := p[p.size - 1 - k].toNat_lt
      have hst := hP.step (b := p[p.size - 1 - k].toNat) hb (by have := HN.out; omega) HGT.out.symm
      obtain ⟨x, HX⟩ := name_it (L.getD (k / 4) 0)
      rw [HX.out] at hcy hst
      have HST := Lib.hid hst; clear hst
      have hix : ∀ W : World, (Instr.index 9 (.string p) (.int .i64 ((p.size : Int) - 1 - (k : Int)))).run Tryd.prog W = .ok (.int .u8 ((p[p.size - 1 - k].toNat : Nat) : Int)) W := by
        intro W
        rw [run_index_string W 9 p .i64 _ Tryd.underlying9, dif_pos (by omega)]
        have : ((p.size : Int) - 1 - (k : Int)).toNat = p.size - 1 - k := by omega
        simp only [this]
      obtain ⟨c, HC⟩ := name_it p[p.size - 1 - k].toNat
      rw [HC.out] at hb
      simp only [HC.out] at hix
      obtain ⟨r, HR⟩ := name_it (k % 4)
      have hr4 : r < 4 := by rw [← HR.out]; omega
      have e1 : Hid (bits BinOp.or IntKind.u32 (x : Int) ((c : Int) * 2 ^ (8 * (k % 4)) % 4294967296) = ((x + c * 256 ^ (k % 4) : Nat) : Int)) := by
        rw [HR.out]
        have h1 : (256 : Nat) ^ r = 2 ^ (8 * r) := by rw [show (256 : Nat) = 2 ^ 8 from rfl, ← Nat.pow_mul]
        have hx := HST.out.1
        rw [HR.out, h1] at hx
        have h2 : (2 : Nat) ^ (8 * r) ≤ 2 ^ 24 := Nat.pow_le_pow_right (by omega) (by omega)
        have h3 : c * 2 ^ (8 * r) ≤ 255 * 2 ^ (8 * r) := Nat.mul_le_mul_right _ (by omega)
        have h5 : c * 2 ^ (8 * r) < 2 ^ 32 := by omega
        have h4 := or_u32' c x (8 * r) (by omega) h5 hx
        have h6 : ((c : Int) * 2 ^ (8 * r) % 4294967296) = ((c * 2 ^ (8 * r) : Nat) : Int) := by
          have h7 : ((c : Int) * 2 ^ (8 * r)) = ((c * 2 ^ (8 * r) : Nat) : Int) := by simp
          rw [h7]
          have h8 : ((c * 2 ^ (8 * r) : Nat) : Int) < 4294967296 := by omega
          omega
        show _ = _
        rw [h6, h4, h1, Nat.add_comm]
      go_wp2
      go_region
      all_goals
        go_wp2
        go_roundw
        case rel =>
          rw [e1.out]
          have h2 := HST.out.2
          rw [HC.out] at h2
          exact ⟨k + 1, _, by omega, by go_num, h2, (hr.store _ _).drew, (hchr.setCell (.inr (by rw [← HG.out]; exact Nat.le_refl _)) _).drew⟩
        case measure => simp [intOf]; omega
    · have hkp : k = p.size := by omega
      have hll : (R p).length = p.size := R_length p
      have HL : Hid (L.length = n) := hP.len
      have HP2 : Hid (noz L ∧ lv 4294967296 L = val s) := by
        refine ⟨?_, ?_⟩
        · refine Pack.noz (bs := R p) (n := n) ?_ ?_ ?_
          · rw [hll, ← hkp]; exact hP
          · rw [hll, ← HN.out]
          · intro hne
            rw [hll]
            have := bv_ge p.data.toList hpn.out (by intro h; apply hne; simp [R, rb, h])
            simpa [R, lv_rb] using this
        · rw [hP.value, lv_take_all _ _ _ (by omega), lv_R, hpv.out]
      have hdig := hP.digs
      clear hkp hll
      go_wp2
      go_ret
      refine ⟨g, n + 1, L, ret_eq (by rw [HL.out]; rfl), hr, by rw [← HG.out]; exact Nat.le_refl _, hdig, HP2.out.1, HP2.out.2, ?_, hchr⟩
      have h1 := HN.out
      have h2 := nrmB_size s
      rw [HP.out] at h2
      rw [HL.out]
      omega

end Go.Proofs.YtjmonodjnljhdaaDoor
