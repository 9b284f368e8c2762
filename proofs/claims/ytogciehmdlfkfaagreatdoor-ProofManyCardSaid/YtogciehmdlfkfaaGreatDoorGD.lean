/-
  Several parts put together: W5, W6, W7, W8.
-/
import Derived.Test.YtogciehmdlfkfaaGreatDoorGC
/- Part W5. -/

namespace Go.Proofs.YtogciehmdlfkfaaGreatDoor
open Go.RowKit Nd

/-- A slice value of uint32: nil, or at the head of a row. -/
inductive Sl (w : World) : Value → List Nat → Prop
  | nil : Sl w (.slice none 0 0) []
  | row (g cap : Nat) (xs : List Nat) (h : Row 120 .u32 w g cap xs) : Sl w (.slice (some ⟨g, 0, none⟩) xs.length cap) xs

set_option maxRecDepth 20000 in
set_option maxHeartbeats 1000000 in
theorem fromLimbs_row (g cap : Nat) (xs : List Nat) (w : World) (hr : Row 120 .u32 w g cap xs) (hd : dig 4294967296 xs) (hn : xs.length ≤ 1099511627776) :
    Calls Tryz.prog 139 #[.slice (some ⟨g, 0, none⟩) xs.length cap] w fun e w' => ∃ s, e = .returned (.string s) ∧ Is s (lv 4294967296 xs) ∧ Chg [] w w' := by
  obtain ⟨i0, hi, hz0, hz1, hz2⟩ := info_parts Tryz.info8
  have hfit := hr.fits
  have hrt := hr.take (tl xs) (tl_le xs)
  have hdt := trim_dig hd
  have hlt : (trim xs).length = tl xs := trim_length xs
  change Row _ _ _ _ _ (trim xs) at hrt
  obtain ⟨ys, HY⟩ := name_it (trim xs)
  have hv : Hid (lv 4294967296 ys = lv 4294967296 xs) := by rw [← HY.out]; exact lv_trim _ _
  rw [HY.out] at hrt hdt hlt
  have hlen : ys.length ≤ 1099511627776 := by have := tl_le xs; omega
  obtain ⟨n, HN⟩ := name_it (4 * ys.length)
  have hn4 : n ≤ 4398046511104 := by have := HN.out; omega
  have hcells := fun j hj => hr.cell j hj
  have HLT := Lib.hid hlt; clear hlt
  go_enter Tryz.func139, Tryz.ntmps139
  go_wp2_with fail
  refine (trim_row g 0 cap xs _ hfit.1 hfit.2 (fun j hj => by simpa using hcells j hj)).mono ?_
  rintro e w' ⟨rfl, rfl⟩
  rw [← HLT.out]
  clear hcells hr hd hn
  go_wp2_with (at_make; refine wpList_make_full _ rfl (.tmp 9) (.tmp 9) 51 rfl 0 5 i0 (.int .u8 0) 1 Tryz.underlying51 hi hz0 hz1 .i64 .i64 _ _ n rfl rfl (by have := HN.out; omega) (by have := HN.out; omega) (by rw [hz2]; omega) (by unfold maxLen; omega) (Nat.zero_le _) ?_)
  intro w1 hown hgr
  have hrow : Row 5 .u8 w1 w.heap.size n (List.replicate n 0) := Row.of_make 0 (by simpa [toList_madeCells_one] using hown)
  have hch : Chg [] w w1 := Chg.of_grown hgr
  have hne : g ≠ w.heap.size := by have := hrt.lt; omega
  have hrt1 := hrt.keep hch (by simp)
  obtain ⟨b, HG⟩ := name_it w.heap.size
  rw [HG.out] at hrow hne ⊢
  clear hown hgr hi hz0 hz1 hz2
  have HBL : Hid ((bytesOf ys).length = n) := by rw [← HN.out]; exact bytesOf_length ys
  go_wp2_with fail
  go_loopw [13] (fun iv wr => ∃ (k : Nat), k ≤ n ∧ iv = .int .i64 k ∧ Row 5 .u8 wr b n (List.replicate (n - k) 0 ++ ((bytesOf ys).take k).reverse) ∧ Row 120 .u32 wr g cap ys ∧ Chg [] w wr)
    (fun iv _ => n - (intOf iv).toNat)
  case atStart => exact ⟨0, Nat.zero_le _, rfl, by simpa using hrow, hrt1, hch⟩
  case round =>
    obtain ⟨k, hk, rfl, hr, hry, hchr⟩ := hrel
    clear hrow hrt1 hch hrt
    have hlen' : (List.replicate (n - k) 0 ++ ((bytesOf ys).take k).reverse).length = n := by
      have := HBL.out
      simp; omega
    have HL := Lib.hid hlen'; clear hlen'
    by_cases hlt : k < n
    · have hq1 : k / 4 < ys.length := by have := HN.out; omega
      have hcy := hry.cell (k / 4) hq1
      obtain ⟨x, HX⟩ := name_it (ys.getD (k / 4) 0)
      rw [HX.out] at hcy
      have hfr : wr.frozen? ⟨b, n - 1 - k, none⟩ = false := hr.frozen _
      have hce := hr.cell (n - 1 - k) (by rw [HL.out]; omega)
      obtain ⟨old, HO⟩ := name_it ((List.replicate (n - k) 0 ++ ((bytesOf ys).take k).reverse).getD (n - 1 - k) 0)
      rw [HO.out] at hce
      have e1 : Hid ((x : Int) / 2 ^ (8 * (k % 4)) % 256 = (((bytesOf ys).getD k 0 : Nat) : Int)) := by
        have := bytesOf_get ys (k / 4) (k % 4) (by omega)
        rw [show 4 * (k / 4) + k % 4 = k by omega, HX.out] at this
        rw [this, show (256 : Nat) = 2 ^ 8 from rfl, ← Nat.pow_mul]
        show _ = _
        simp
      go_wp2
      go_roundw
      case rel =>
        refine ⟨k + 1, by omega, by go_num, ?_, hry.keep (gs := [b]) ⟨rfl, rfl, rfl, by simp, fun j _ hj => Below.heap_setCell _ _ _ _ (by simpa using hj)⟩ (by simpa using hne), hchr.setCell (.inr (by rw [← HG.out]; exact Nat.le_refl _)) _⟩
        rw [take_snoc (bytesOf ys) 0 k (by rw [HBL.out]; exact hlt), ← fill_back hlt, e1.out]
        exact hr.store _ _
      case measure => simp [intOf]; omega
    · obtain ⟨zs, HZS⟩ := name_it (List.replicate (n - k) 0 ++ ((bytesOf ys).take k).reverse)
      rw [HZS.out] at hr
      have hl : Hid (zs.length = n) := by rw [← HZS.out]; exact HL.out
      have hstr := run_str hr
      rw [hl.out] at hstr
      have hvz : Hid (val (strOf zs) = lv 4294967296 xs) := by
        have hzs : zs = (bytesOf ys).reverse := by
          rw [← HZS.out, show n - k = 0 by omega, List.take_of_length_le (by rw [HBL.out]; omega)]; simp
        show val (strOf zs) = _
        rw [val_strOf _ (by rw [hzs]; exact fun y hy => bytesOf_dig ys y (by simpa using hy)), hzs, List.reverse_reverse, lv_bytesOf _ hdt, hv.out]
      go_wp2_with (go_at_call 154; (with_reducible refine (normalize_any _ _ (by rw [strOf_size, hl.out]; omega)).mono ?_); rintro e w' ⟨rfl, rfl⟩)
      go_ret
      exact ⟨_, rfl, by rw [← hvz.out]; exact Is_nrmB _, hchr⟩
set_option maxRecDepth 20000 in
set_option maxHeartbeats 400000 in
theorem fromLimbs_nil (w : World) :
    Calls Tryz.prog 139 #[.slice none 0 0] w fun e w' => ∃ s, e = .returned (.string s) ∧ Is s 0 ∧ Chg [] w w' := by
  obtain ⟨i0, hi, hz0, hz1, hz2⟩ := info_parts Tryz.info8
  go_enter Tryz.func139, Tryz.ntmps139
  go_wp2_with fail
  refine (trim_nil _).mono ?_
  rintro e w' ⟨rfl, rfl⟩
  go_wp2_with (at_make; refine wpList_make_full _ rfl (.tmp 9) (.tmp 9) 51 rfl 0 5 i0 (.int .u8 0) 1 Tryz.underlying51 hi hz0 hz1 .i64 .i64 _ _ 0 rfl rfl (by omega) (by omega) (by omega) (by unfold maxLen; omega) (Nat.zero_le _) ?_)
  intro w1 hown hgr
  have hrow : Row 5 .u8 w1 w.heap.size 0 [] := by unfold Row; simpa [toList_madeCells_one, vals] using hown
  have hch : Chg [] w w1 := Chg.of_grown hgr
  obtain ⟨b, HG⟩ := name_it w.heap.size
  rw [HG.out] at hrow ⊢
  clear hown hgr hi hz0 hz1 hz2
  have hstr := run_str hrow
  have H0 : Hid (val (strOf []) = 0) := by show val (strOf []) = 0; rw [val_strOf _ (dig_nil _)]; rfl
  go_wp2_with fail
  go_loop [13] (fun iv => iv = .int .i64 0) (fun _ => 0)
  case atStart => rfl
  case round =>
    obtain rfl := hrel
    simp only [List.length_nil] at hstr
    go_wp2_with (go_at_call 154; (with_reducible refine (normalize_any _ _ (by rw [strOf_size]; simp)).mono ?_); rintro e w' ⟨rfl, rfl⟩)
    go_ret
    exact ⟨_, rfl, by rw [← H0.out]; exact Is_nrmB _, hch⟩

/-- The digits of a slice in base 2^32 as a string. -/
theorem fromLimbs_any {v : Value} {xs : List Nat} (w : World) (h : Sl w v xs) (hd : dig 4294967296 xs) (hn : xs.length ≤ 1099511627776) :
    Calls Tryz.prog 139 #[v] w fun e w' => ∃ s, e = .returned (.string s) ∧ Is s (lv 4294967296 xs) ∧ Chg [] w w' := by
  cases h with
  | nil => exact fromLimbs_nil w
  | row g cap _ hr => exact fromLimbs_row g cap xs w hr hd hn

set_option maxRecDepth 20000 in
theorem fromUint_any (u : Nat) (w : World) (hu : u < 18446744073709551616) :
    Calls Tryz.prog 140 #[.int .u64 u] w fun e w' => ∃ s, e = .returned (.string s) ∧ Is s u ∧ Chg [] w w' := by
  go_enter Tryz.func140, Tryz.ntmps140
  go_wp2_with fail
  have hrow : Row 120 .u32 (w.alloc (Obj.cells #[Value.int IntKind.u32 (↑u % 4294967296), Value.int IntKind.u32 (↑u / 4294967296)] 120)) w.heap.size 2 [u % 4294967296, u / 4294967296] :=
    Row.of_alloc w _ [u % 4294967296, u / 4294967296] (by simp [vals]) (by simp)
  have hd : dig 4294967296 [u % 4294967296, u / 4294967296] := dig_cons (by omega) (dig_cons (by omega) (dig_nil _))
  refine (fromLimbs_row w.heap.size 2 _ _ hrow hd (by simp)).mono ?_
  rintro e w1 ⟨s, rfl, hs, hc⟩
  have hch : Chg [] w w1 := ((Chg.refl [] w).alloc _).then hc
  clear hc hrow hd
  have HS : Hid (Is s u) := by
    have : lv 4294967296 [u % 4294967296, u / 4294967296] = u := by simp; omega
    rwa [this] at hs
  clear hs
  go_wp2_with fail
  go_ret
  exact ⟨_, rfl, HS.out, hch⟩

set_option maxRecDepth 20000 in
set_option maxHeartbeats 1000000 in
theorem toLimbs_any (s : ByteArray) (w : World) (hs : s.size ≤ 1099511627776) :
    Calls Tryz.prog 129 #[.string s] w fun e w' => ∃ g cap xs, e = .returned (.slice (some ⟨g, 0, none⟩) xs.length cap) ∧ Row 120 .u32 w' g cap xs ∧ w.heap.size ≤ g ∧
      dig 4294967296 xs ∧ noz xs ∧ lv 4294967296 xs = val s ∧ 4 * xs.length ≤ s.size + 3 ∧ Chg [] w w' := by
  obtain ⟨p, HP⟩ := name_it (nrmB s)
  have hp1 : p.size ≤ 1099511627776 := by rw [← HP.out]; exact Nat.le_trans (nrmB_size s) hs
  obtain ⟨n, HN⟩ := name_it ((p.size + 3) / 4)
  have hn3 : n ≤ 1099511627776 := by have := HN.out; omega
  obtain ⟨i0, hi, hz0, hz1, hz2⟩ := info_parts Tryz.info32
  go_enter Tryz.func129, Tryz.ntmps129
  go_wp2_with fail
  refine (normalize_any s _ (by omega)).mono ?_
  rintro e w' ⟨rfl, rfl⟩
  rw [HP.out]
  go_wp2_with (at_make; refine wpList_make_cap _ rfl (.tmp 10) (.tmp 15) 118 rfl 120 i0 .u32 Tryz.underlying118 hi hz0 hz1 .i64 .i64 _ _ n (n + 1) rfl rfl (by have := HN.out; omega) (by have := HN.out; omega) (by omega) (by rw [hz2]; omega) (by omega) ?_)
  intro w1 hrow hch
  obtain ⟨g, HG⟩ := name_it w.heap.size
  rw [HG.out] at hrow ⊢
  clear hi hz0 hz1 hz2
  have hpn : Hid (nolead p.data.toList) := by rw [← HP.out]; exact (Is_nrmB s).2
  have hpv : Hid (val p = val s) := by rw [← HP.out]; exact val_nrmB s
  go_wp2_with fail
  go_loopw [19] (fun iv wr => ∃ (k : Nat) (L : List Nat), k ≤ p.size ∧ iv = .int .i64 k ∧ Pack (R p) n k L ∧ Row 120 .u32 wr g (n + 1) L ∧ Chg [] w wr)
    (fun iv _ => p.size - (intOf iv).toNat)
  case atStart => exact ⟨0, List.replicate n 0, Nat.zero_le _, rfl, Pack.start _ _, hrow, hch⟩
  case round =>
    obtain ⟨k, L, hk, rfl, hP, hr, hchr⟩ := hrel
    clear hrow hch
    by_cases hlt : k < p.size
    · have hq1 : k / 4 < L.length := by have := HN.out; rw [hP.len]; omega
      have hq2 : k / 4 < n := by have := HN.out; omega
      have hcy := hr.cell (k / 4) hq1
      have hfr : wr.frozen? ⟨g, k / 4, none⟩ = false := hr.frozen _
      have hg := R_get p k (p.size - 1 - k) (by omega)
      have HGT := Lib.hid hg; clear hg
      have hb := p[p.size - 1 - k].toNat_lt
      have hst := hP.step (b := p[p.size - 1 - k].toNat) hb (by have := HN.out; omega) HGT.out.symm
      obtain ⟨x, HX⟩ := name_it (L.getD (k / 4) 0)
      rw [HX.out] at hcy hst
      have HST := Lib.hid hst; clear hst
      have hix : ∀ W : World, (Instr.index 9 (.string p) (.int .i64 ((p.size : Int) - 1 - (k : Int)))).run Tryz.prog W = .ok (.int .u8 ((p[p.size - 1 - k].toNat : Nat) : Int)) W := by
        intro W
        rw [run_index_string W 9 p .i64 _ Tryz.underlying9, dif_pos (by omega)]
        have : ((p.size : Int) - 1 - (k : Int)).toNat = p.size - 1 - k := by omega
        simp only [this]
      obtain ⟨c, HC⟩ := name_it p[p.size - 1 - k].toNat
      rw [HC.out] at hb
      simp only [HC.out] at hix
      obtain ⟨r, HR⟩ := name_it (k % 4)
      have hr4 : r < 4 := by rw [← HR.out]; omega
      have e1 : Hid (bits BinOp.or IntKind.u32 (x : Int) ((c : Int) * 2 ^ (8 * (k % 4)) % 4294967296) = ((x + c * 256 ^ (k % 4) : Nat) : Int)) := by
        rw [HR.out]
        have h1 : (256 : Nat) ^ r = 2 ^ (8 * r) := by rw [show (256 : Nat) = 2 ^ 8 from rfl, ← Nat.pow_mul]
        have hx := HST.out.1
        rw [HR.out, h1] at hx
        have h2 : (2 : Nat) ^ (8 * r) ≤ 2 ^ 24 := Nat.pow_le_pow_right (by omega) (by omega)
        have h3 : c * 2 ^ (8 * r) ≤ 255 * 2 ^ (8 * r) := Nat.mul_le_mul_right _ (by omega)
        have h5 : c * 2 ^ (8 * r) < 2 ^ 32 := by omega
        have h4 := or_u32' c x (8 * r) (by omega) h5 hx
        have h6 : ((c : Int) * 2 ^ (8 * r) % 4294967296) = ((c * 2 ^ (8 * r) : Nat) : Int) := by
          have h7 : ((c : Int) * 2 ^ (8 * r)) = ((c * 2 ^ (8 * r) : Nat) : Int) := by simp
          rw [h7]
          have h8 : ((c * 2 ^ (8 * r) : Nat) : Int) < 4294967296 := by omega
          omega
        show _ = _
        rw [h6, h4, h1, Nat.add_comm]
      go_wp2
      go_region
      all_goals
        go_wp2
        go_roundw
        case rel =>
          rw [e1.out]
          have h2 := HST.out.2
          rw [HC.out] at h2
          exact ⟨k + 1, _, by omega, by go_num, h2, (hr.store _ _).drew, (hchr.setCell (.inr (by rw [← HG.out]; exact Nat.le_refl _)) _).drew⟩
        case measure => simp [intOf]; omega
    · have hkp : k = p.size := by omega
      have hll : (R p).length = p.size := R_length p
      have HL : Hid (L.length = n) := hP.len
      have HP2 : Hid (noz L ∧ lv 4294967296 L = val s) := by
        refine ⟨?_, ?_⟩
        · refine Pack.noz (bs := R p) (n := n) ?_ ?_ ?_
          · rw [hll, ← hkp]; exact hP
          · rw [hll, ← HN.out]
          · intro hne
            rw [hll]
            have := bv_ge p.data.toList hpn.out (by intro h; apply hne; simp [R, rb, h])
            simpa [R, lv_rb] using this
        · rw [hP.value, lv_take_all _ _ _ (by omega), lv_R, hpv.out]
      have hdig := hP.digs
      clear hkp hll
      go_wp2
      go_ret
      refine ⟨g, n + 1, L, ret_eq (by rw [HL.out]; rfl), hr, by rw [← HG.out]; exact Nat.le_refl _, hdig, HP2.out.1, HP2.out.2, ?_, hchr⟩
      have h1 := HN.out
      have h2 := nrmB_size s
      rw [HP.out] at h2
      rw [HL.out]
      omega

end Go.Proofs.YtogciehmdlfkfaaGreatDoor

/- Part W6. -/

namespace Go.Proofs.YtogciehmdlfkfaaGreatDoor
open Go.RowKit Nd

set_option maxRecDepth 20000 in
set_option maxHeartbeats 1600000 in
theorem product_any (ga ca gb cb : Nat) (A C : List Nat) (w : World) (hA : Row 120 .u32 w ga ca A) (hC : Row 120 .u32 w gb cb C) (dA : dig 4294967296 A) (dC : dig 4294967296 C)
    (la : A.length ≤ 1099511627776) (lc : C.length ≤ 1099511627776) :
    Calls Tryz.prog 202 #[.slice (some ⟨ga, 0, none⟩) A.length ca, .slice (some ⟨gb, 0, none⟩) C.length cb] w fun e w' => ∃ g L, e = .returned (.slice (some ⟨g, 0, none⟩) L.length L.length) ∧
      Row 120 .u32 w' g L.length L ∧ w.heap.size ≤ g ∧ dig 4294967296 L ∧ lv 4294967296 L = lv 4294967296 A * lv 4294967296 C ∧ L.length = A.length + C.length ∧ Chg [] w w' := by
  obtain ⟨i0, hi, hz0, hz1, hz2⟩ := info_parts Tryz.info32
  obtain ⟨na, HNA⟩ := name_it A.length
  obtain ⟨nc, HNC⟩ := name_it C.length
  obtain ⟨n, HN⟩ := name_it (na + nc)
  have hna : na ≤ 1099511627776 := by rw [← HNA.out]; exact la
  have hnc : nc ≤ 1099511627776 := by rw [← HNC.out]; exact lc
  have hn3 : n ≤ 2199023255552 := by have := HN.out; omega
  rw [HNA.out, HNC.out]
  clear la lc
  go_enter Tryz.func202, Tryz.ntmps202
  go_wp2_with (at_make; refine wpList_make_cap _ rfl (.tmp 15) (.tmp 15) 118 rfl 120 i0 .u32 Tryz.underlying118 hi hz0 hz1 .i64 .i64 _ _ n n rfl rfl (by have := HN.out; omega) (by have := HN.out; omega) (Nat.le_refl _) (by rw [hz2]; omega) (by omega) ?_)
  intro w1 hrow hch
  have hA1 := hA.keep hch (by simp)
  have hC1 := hC.keep hch (by simp)
  have hga : ga ≠ w.heap.size := by have := hA.lt; omega
  have hgb : gb ≠ w.heap.size := by have := hC.lt; omega
  obtain ⟨g, HG⟩ := name_it w.heap.size
  rw [HG.out] at hrow hga hgb ⊢
  clear hi hz0 hz1 hz2 hA hC
  go_wp2_with fail
  go_loopw [19] (fun iv wr => ∃ (i : Nat) (L : List Nat), i ≤ na ∧ iv = .int .i64 i ∧ Prod A C n i L ∧ Row 120 .u32 wr g n L ∧ Row 120 .u32 wr ga ca A ∧ Row 120 .u32 wr gb cb C ∧ Chg [] w wr)
    (fun iv _ => na - (intOf iv).toNat)
  case atStart => exact ⟨0, List.replicate n 0, Nat.zero_le _, rfl, Prod.start _ _ _, hrow, hA1, hC1, hch⟩
  case round =>
    obtain ⟨i, L, hile, rfl, hP, hr, hra, hrb, hchr⟩ := hrel
    clear hrow hch hA1 hC1
    obtain ⟨wo, rfl⟩ : ∃ wo : World, wo = wr := ⟨_, rfl⟩
    by_cases hlt : i < na
    · have hca := hra.cell i (by rw [HNA.out]; exact hlt)
      have hx := dig_getD (by omega) dA i
      obtain ⟨x, HX⟩ := name_it (A.getD i 0)
      rw [HX.out] at hca hx
      go_wp2_with fail
      go_loopw [8, 26] (fun cv jv wr => ∃ (j c : Nat) (L : List Nat), j ≤ nc ∧ jv = .int .i64 j ∧ cv = .int .u64 c ∧ ProdIn A C n i j c x L ∧ Row 120 .u32 wr g n L ∧ Row 120 .u32 wr ga ca A ∧ Row 120 .u32 wr gb cb C ∧ Chg [] w wr)
        (fun _ jv _ => nc - (intOf jv).toNat)
      case atStart => exact ⟨0, 0, L, Nat.zero_le _, rfl, rfl, hP.into x, hr, hra, hrb, hchr⟩
      case round =>
        obtain ⟨j, c, L, hjle, rfl, rfl, hP, hr, hra, hrb, hchr⟩ := hrel
        clear hca
        by_cases hjlt : j < nc
        · have hcb := hrb.cell j (by rw [HNC.out]; exact hjlt)
          obtain ⟨y, HY⟩ := name_it (C.getD j 0)
          rw [HY.out] at hcb
          have hy : y < 4294967296 := by rw [← HY.out]; exact dig_getD (by omega) dC j
          have hij : i + j < n := by have := HN.out; omega
          have hcl := hr.cell (i + j) (by rw [hP.len]; exact hij)
          have hfr := hr.frozen (i + j)
          have hst := hP.step hx HY.out (by rw [HNC.out]; exact hjlt) (by rw [HNC.out, ← HN.out]; omega) dC
          obtain ⟨z, HZ⟩ := name_it (L.getD (i + j) 0)
          rw [HZ.out] at hcl hst
          have hz : z < 4294967296 := by rw [← HZ.out]; exact dig_getD (by omega) hP.digs _
          have hb1 := hst.1
          have HST := Lib.hid hst.2
          have hcy := hP.carry
          clear hst
          have hxy : (x : Int) * (y : Int) ≤ 18446744065119617025 := by
            have h : x * y ≤ 4294967295 * 4294967295 := Nat.mul_le_mul (by omega) (by omega)
            have h' : ((x * y : Nat) : Int) ≤ 18446744065119617025 := by omega
            rwa [Int.natCast_mul] at h'
          have hxy0 : (0 : Int) ≤ (x : Int) * (y : Int) := Int.mul_nonneg (by omega) (by omega)
          have e1 : Hid (((c : Int) + ((x : Int) * (y : Int) + (z : Int))) / 4294967296 = (((c + (x * y + z)) / 4294967296 : Nat) : Int)) := by show _ = _; simp
          have e2 : Hid (((c : Int) + ((x : Int) * (y : Int) + (z : Int))) % 4294967296 = (((c + (x * y + z)) % 4294967296 : Nat) : Int)) := by show _ = _; simp
          go_wp2
          go_roundw
          case rel =>
            rw [e1.out, e2.out]
            exact ⟨j + 1, _, _, by omega, by go_num, rfl, HST.out, hr.store _ _, hra.other hga _, hrb.other hgb _, hchr.setCell (.inr (by rw [← HG.out]; exact Nat.le_refl _)) _⟩
          case measure => simp [intOf]; omega
        · have hP' : Hid (ProdIn A C n i C.length c x L) := by
            have : j = C.length := by rw [HNC.out]; omega
            rw [← this]; exact hP
          have hin : i + nc < n := by have := HN.out; omega
          have hcl := hr.cell (i + nc) (by rw [hP.len]; exact hin)
          have hfr := hr.frozen (i + nc)
          obtain ⟨z, HZ⟩ := name_it (L.getD (i + nc) 0)
          rw [HZ.out] at hcl
          have hcy := hP.carry
          clear hP
          go_wp2
          go_roundw
          case rel =>
            have h1 := hP'.out.out HX.out (by rw [HNC.out]; exact hin)
            rw [HNC.out] at h1
            exact ⟨i + 1, _, by omega, by go_num, h1, hr.store _ _, hra.other hga _, hrb.other hgb _, hchr.setCell (.inr (by rw [← HG.out]; exact Nat.le_refl _)) _⟩
          case measure => simp [intOf]; omega
    · have hLL : Hid (L.length = n) := hP.len
      have hv : Hid (lv 4294967296 L = lv 4294967296 A * lv 4294967296 C) := by
        have := hP.value
        rwa [List.take_of_length_le (by rw [HNA.out]; omega)] at this
      have hd := hP.digs
      clear hP
      go_wp2
      go_ret
      exact ⟨g, L, ret_eq (by rw [hLL.out]; rfl), by rw [hLL.out]; exact hr, by rw [← HG.out]; exact Nat.le_refl _, hd, hv.out, by rw [hLL.out, ← HN.out], hchr⟩

set_option maxRecDepth 20000 in
set_option maxHeartbeats 400000 in
theorem multiply_any (a b : ByteArray) (w : World) (ha : a.size ≤ 1099511627776) (hb : b.size ≤ 1099511627776) :
    Calls Tryz.prog 189 #[.string a, .string b] w fun e w' => ∃ s, e = .returned (.string s) ∧ Is s (val a * val b) ∧ Chg [] w w' := by
  go_enter Tryz.func189, Tryz.ntmps189
  go_wp2_with fail
  refine (toLimbs_any a _ ha).mono ?_
  rintro e w1 ⟨ga, ca, A, rfl, hA, hga, dA, _, vA, lA, cA⟩
  have HA := Lib.hid vA; clear vA
  go_wp2_with fail
  refine (toLimbs_any b _ hb).mono ?_
  rintro e w2 ⟨gb, cb, C, rfl, hC, hgb, dC, _, vC, lC, cC⟩
  have HC := Lib.hid vC; clear vC
  go_wp2_with fail
  refine (product_any ga ca gb cb A C _ (hA.keep cC (by simp)) hC dA dC (by omega) (by omega)).mono ?_
  rintro e w3 ⟨g, L, rfl, hL, hg, dL, vL, lL, cL⟩
  have HL := Lib.hid vL; clear vL
  have HL2 := Lib.hid lL; clear lL
  go_wp2_with fail
  refine (fromLimbs_row g L.length L _ hL dL (by rw [HL2.out]; omega)).mono ?_
  rintro e w4 ⟨s, rfl, hs, c4⟩
  go_wp2_with fail
  go_ret
  refine ⟨s, rfl, ?_, ((cA.then cC).then cL).then c4⟩
  rw [HL.out, HA.out, HC.out] at hs
  exact hs

end Go.Proofs.YtogciehmdlfkfaaGreatDoor

/- Part W7. -/

namespace Go.Proofs.YtogciehmdlfkfaaGreatDoor
open Go.RowKit Nd

theorem lt_bitLenAux : ∀ (f x : Nat), x < 2 ^ f → x < 2 ^ (Lib.bitLenAux f x)
  | 0, x, h => by simpa [Lib.bitLenAux] using h
  | f + 1, x, h => by
    rw [Lib.bitLenAux]
    split
    · rename_i h0; rw [h0]; decide
    · have := lt_bitLenAux f (x / 2) (by rw [Nat.pow_succ] at h; omega)
      rw [Nat.pow_add]
      omega

set_option maxRecDepth 20000 in
theorem lz_any (x : Nat) (w : World) (h0 : 0 < x) (h1 : x < 4294967296) :
    Calls Tryz.prog 192 #[.int .u32 x] w fun e w' => ∃ s : Nat, e = .returned (.int .i64 s) ∧ s ≤ 31 ∧ (x + 1) * 2 ^ s ≤ 4294967296 ∧ w = w' := by
  have hb1 : Lib.bitLen x ≤ 32 := Lib.bitLen_le x 32 (by omega) (by simpa using h1)
  have hb2 : x < 2 ^ Lib.bitLen x := lt_bitLenAux 64 x (by omega)
  have hb3 : 1 ≤ Lib.bitLen x := by
    apply Classical.byContradiction
    intro h
    rw [show Lib.bitLen x = 0 by omega] at hb2
    simp at hb2; omega
  obtain ⟨l, HL⟩ := name_it (Lib.bitLen x)
  rw [HL.out] at hb1 hb2 hb3
  have HB := Lib.hid hb2; clear hb2
  go_enter Tryz.func192, Tryz.ntmps192
  go_wp2_with fail
  refine (Tryz.bits_Len32 (x : Int) _ (by omega) (by omega)).mono ?_
  rintro e w' ⟨rfl, rfl⟩
  rw [Int.toNat_natCast, HL.out]
  go_wp2_with fail
  go_ret
  refine ⟨32 - l, ret_eq ?_, by omega, ?_, rfl⟩
  · show Value.int IntKind.i64 (32 - (l : Int)) = Value.int IntKind.i64 ((32 - l : Nat) : Int)
    congr 1; omega
  · have : (x + 1) * 2 ^ (32 - l) ≤ 2 ^ l * 2 ^ (32 - l) := Nat.mul_le_mul_right _ HB.out
    rw [← Nat.pow_add, show l + (32 - l) = 32 by omega] at this
    simpa using this

set_option maxRecDepth 20000 in
set_option maxHeartbeats 1600000 in
theorem estimate_long (gu o cu gv cv m a b c d f : Nat) (w : World) (hm : 2 ≤ m) (hmb : m ≤ 1099511627776) (hu0 : w.cell? ⟨gu, o + m, none⟩ = some (.int .u32 a)) (hu1 : w.cell? ⟨gu, o + (m - 1), none⟩ = some (.int .u32 b)) (hu2 : w.cell? ⟨gu, o + (m - 2), none⟩ = some (.int .u32 c))
    (hv1 : w.cell? ⟨gv, m - 1, none⟩ = some (.int .u32 d)) (hv2 : w.cell? ⟨gv, m - 2, none⟩ = some (.int .u32 f)) (ha : a ≤ d) (hb : b < 4294967296) (hc : c < 4294967296) (hd : d < 4294967296) (hd0 : 0 < d) (hf : f < 4294967296) :
    Calls Tryz.prog 176 #[.slice (some ⟨gu, o, none⟩) (m + 1) cu, .slice (some ⟨gv, 0, none⟩) m cv] w fun e w' => ∃ s n : Nat, e = .returned (.int .u32 (min (((a * 4294967296 + b) * 2 ^ s + c / 2 ^ (32 - s)) / (d * 2 ^ s + f / 2 ^ (32 - s))) 4294967295 : Nat)) ∧
      s ≤ 31 ∧ (d + 1) * 2 ^ s ≤ 4294967296 ∧ w' = w.drewN n := by
  go_enter Tryz.func176, Tryz.ntmps176
  go_wp2_with fail
  refine (lz_any d _ hd0 hd).mono ?_
  rintro e w' ⟨s, rfl, hs, hsd, rfl⟩
  go_wp2_with fail
  obtain ⟨t1, HT1⟩ := name_it (a * 4294967296 + b)
  have hor1 : bits BinOp.or IntKind.u64 ((a : Int) * 4294967296) (b : Int) = ((t1 : Nat) : Int) := by
    have := or_u64 a b 32 (by omega) (by omega) (by simpa using hb)
    rw [show (2 : Nat) ^ 32 = 4294967296 from rfl, HT1.out] at this
    simpa using this
  obtain ⟨h1, h2, h3, h4, h5⟩ := est_bounds a b c d f s ha hb hc hf hd0 hs hsd
  have low := fun x (hx : x < 4294967296) => shr_lt s x (by omega) hx
  obtain ⟨T, HT⟩ := name_it ((a * 4294967296 + b) * 2 ^ s + c / 2 ^ (32 - s))
  obtain ⟨D, HD⟩ := name_it (d * 2 ^ s + f / 2 ^ (32 - s))
  rw [HT.out] at h3
  rw [HD.out] at h4 h5
  rw [HT1.out] at h1
  have HT2 := HT.out
  rw [HT1.out] at HT2
  have hor2 : bits BinOp.or IntKind.u64 (IntKind.u64.wrap ((t1 : Int) * 2 ^ s)) ((c : Int) / 2 ^ (32 - s)) = ((T : Nat) : Int) := by
    have e1 := or_u64 t1 (c / 2 ^ (32 - s)) s (by omega) h1 (low c hc)
    rw [HT2] at e1
    have e2 : IntKind.u64.wrap ((t1 : Int) * 2 ^ s) = ((t1 * 2 ^ s : Nat) : Int) := by
      have : ((t1 : Int) * 2 ^ s) = ((t1 * 2 ^ s : Nat) : Int) := by simp
      rw [this]; exact IntWalk.u64_in _ ⟨by omega, by omega⟩
    have e3 : ((c : Int) / 2 ^ (32 - s)) = ((c / 2 ^ (32 - s) : Nat) : Int) := by simp
    rw [e2, e3, e1]
  have hor3 : bits BinOp.or IntKind.u32 ((d : Int) * 2 ^ s % 4294967296) ((f : Int) / 2 ^ (32 - s)) = ((D : Nat) : Int) := by
    have e1 := or_u32 d (f / 2 ^ (32 - s)) s (by omega) (by omega) (low f hf)
    rw [HD.out] at e1
    have e2 : ((d : Int) * 2 ^ s % 4294967296) = ((d * 2 ^ s : Nat) : Int) := by
      have e4 : ((d : Int) * 2 ^ s) = ((d * 2 ^ s : Nat) : Int) := by simp
      rw [e4]; omega
    have e3 : ((f : Int) / 2 ^ (32 - s)) = ((f / 2 ^ (32 - s) : Nat) : Int) := by simp
    rw [e2, e3, e1]
  obtain ⟨Q, HQ⟩ := name_it (T / D)
  have hq : (T : Int) / (D : Int) = (Q : Int) := by rw [← HQ.out]; simp
  have hQ : Q ≤ 18446744073709551615 := by rw [← HQ.out]; exact Nat.le_trans (Nat.div_le_self _ _) h3
  have HSD := Lib.hid hsd
  have HLOW := Lib.hid low
  clear low h1 h2 HT2 hsd
  go_region
  all_goals go_wp2_with fail
  clear hu2 hv2
  go_region
  all_goals go_wp2_with fail
  clear hor1 hor2
  go_region
  all_goals go_wp2_with fail
  go_ret
  refine ⟨s, 3, ret_eq ?_, hs, HSD.out, rfl⟩
  show Value.int IntKind.u32 _ = Value.int IntKind.u32 _
  rw [HT.out, HD.out, HQ.out]
  congr 1
  omega

set_option maxRecDepth 20000 in
set_option maxHeartbeats 1600000 in
theorem estimate_one (gu o cu gv cv a b d : Nat) (w : World) (hu0 : w.cell? ⟨gu, o + 1, none⟩ = some (.int .u32 a)) (hu1 : w.cell? ⟨gu, o, none⟩ = some (.int .u32 b))
    (hv1 : w.cell? ⟨gv, 0, none⟩ = some (.int .u32 d)) (ha : a ≤ d) (hb : b < 4294967296) (hd : d < 4294967296) (hd0 : 0 < d) :
    Calls Tryz.prog 176 #[.slice (some ⟨gu, o, none⟩) 2 cu, .slice (some ⟨gv, 0, none⟩) 1 cv] w fun e w' => ∃ s n : Nat, e = .returned (.int .u32 (min (((a * 4294967296 + b) * 2 ^ s + 0 / 2 ^ (32 - s)) / (d * 2 ^ s + 0 / 2 ^ (32 - s))) 4294967295 : Nat)) ∧
      s ≤ 31 ∧ (d + 1) * 2 ^ s ≤ 4294967296 ∧ w' = w.drewN n := by
  go_enter Tryz.func176, Tryz.ntmps176
  go_wp2_with fail
  refine (lz_any d _ hd0 hd).mono ?_
  rintro e w' ⟨s, rfl, hs, hsd, rfl⟩
  go_wp2_with fail
  obtain ⟨t1, HT1⟩ := name_it (a * 4294967296 + b)
  have hor1 : bits BinOp.or IntKind.u64 ((a : Int) * 4294967296) (b : Int) = ((t1 : Nat) : Int) := by
    have := or_u64 a b 32 (by omega) (by omega) (by simpa using hb)
    rw [show (2 : Nat) ^ 32 = 4294967296 from rfl, HT1.out] at this
    simpa using this
  obtain ⟨h1, h2, h3, h4, h5⟩ := est_bounds a b 0 d 0 s ha hb (by omega) (by omega) hd0 hs hsd
  have low := fun x (hx : x < 4294967296) => shr_lt s x (by omega) hx
  obtain ⟨T, HT⟩ := name_it ((a * 4294967296 + b) * 2 ^ s + 0 / 2 ^ (32 - s))
  obtain ⟨D, HD⟩ := name_it (d * 2 ^ s + 0 / 2 ^ (32 - s))
  rw [HT.out] at h3
  rw [HD.out] at h4 h5
  rw [HT1.out] at h1
  have HT2 := HT.out
  rw [HT1.out] at HT2
  have e0 : (0 : Nat) / 2 ^ (32 - s) = 0 := Nat.zero_div _
  have hor2 : bits BinOp.or IntKind.u64 (IntKind.u64.wrap ((t1 : Int) * 2 ^ s)) 0 = ((T : Nat) : Int) := by
    have e1 := or_u64 t1 (0 / 2 ^ (32 - s)) s (by omega) h1 (low 0 (by omega))
    rw [HT2] at e1
    have e2 : IntKind.u64.wrap ((t1 : Int) * 2 ^ s) = ((t1 * 2 ^ s : Nat) : Int) := by
      have : ((t1 : Int) * 2 ^ s) = ((t1 * 2 ^ s : Nat) : Int) := by simp
      rw [this]; exact IntWalk.u64_in _ ⟨by omega, by omega⟩
    rw [e2, ← e1, e0]; rfl
  have hor3 : bits BinOp.or IntKind.u32 ((d : Int) * 2 ^ s % 4294967296) 0 = ((D : Nat) : Int) := by
    have e1 := or_u32 d (0 / 2 ^ (32 - s)) s (by omega) (by omega) (low 0 (by omega))
    rw [HD.out] at e1
    have e2 : ((d : Int) * 2 ^ s % 4294967296) = ((d * 2 ^ s : Nat) : Int) := by
      have e4 : ((d : Int) * 2 ^ s) = ((d * 2 ^ s : Nat) : Int) := by simp
      rw [e4]; omega
    rw [e2, ← e1, e0]; rfl
  obtain ⟨Q, HQ⟩ := name_it (T / D)
  have hq : (T : Int) / (D : Int) = (Q : Int) := by rw [← HQ.out]; simp
  have hQ : Q ≤ 18446744073709551615 := by rw [← HQ.out]; exact Nat.le_trans (Nat.div_le_self _ _) h3
  have HSD := Lib.hid hsd
  clear low h1 h2 HT2 hsd e0
  go_region
  all_goals go_wp2_with fail
  clear hor1 hor2
  go_region
  all_goals go_wp2_with fail
  go_ret
  refine ⟨s, 2, ret_eq ?_, hs, HSD.out, rfl⟩
  show Value.int IntKind.u32 _ = Value.int IntKind.u32 _
  rw [HT.out, HD.out, HQ.out]
  congr 1
  omega

end Go.Proofs.YtogciehmdlfkfaaGreatDoor

/- Part W8. -/

namespace Go.Proofs.YtogciehmdlfkfaaGreatDoor
open Go.RowKit Nd

set_option maxRecDepth 20000 in
set_option maxHeartbeats 1600000 in
theorem subM_any (gu o cu cu' gv cv q m : Nat) (U V : List Nat) (w : World) (hU : Row 120 .u32 w gu cu U) (hV : Row 120 .u32 w gv cv V) (hne : gv ≠ gu) (dU : dig 4294967296 U) (dV : dig 4294967296 V)
    (hm : V.length = m) (hmb : m ≤ 1099511627776) (hou : o + m < U.length) (hq : q < 4294967296) :
    Calls Tryz.prog 177 #[.slice (some ⟨gu, o, none⟩) (m + 1) cu', .slice (some ⟨gv, 0, none⟩) m cv, .int .u32 q] w fun e w' => ∃ (neg : Bool) (L : List Nat), e = .returned (.bool neg) ∧
      Row 120 .u32 w' gu cu L ∧ Row 120 .u32 w' gv cv V ∧ Chg [gu] w w' ∧ L.length = U.length ∧ dig 4294967296 L ∧ (∀ j, (j < o ∨ o + (m + 1) ≤ j) → L.getD j 0 = U.getD j 0) ∧
      win 4294967296 L o (m + 1) + q * lv 4294967296 V = win 4294967296 U o (m + 1) + 4294967296 ^ (m + 1) * neg.toNat := by
  have HM := Lib.hid hm; clear hm
  go_enter Tryz.func177, Tryz.ntmps177
  go_wp2_with fail
  go_loopw [7, 14] (fun cv' iv wr => ∃ (i c : Nat) (L : List Nat), i ≤ m ∧ iv = .int .i64 i ∧ cv' = .int .u64 c ∧ SubM U V o q i c L ∧ Row 120 .u32 wr gu cu L ∧ Row 120 .u32 wr gv cv V ∧ Chg [gu] w wr)
    (fun _ iv _ => m - (intOf iv).toNat)
  case atStart => exact ⟨0, 0, U, Nat.zero_le _, rfl, rfl, SubM.start o q dU, hU, hV, Chg.refl _ _⟩
  case round =>
    obtain ⟨i, c, L, hile, rfl, rfl, hP, hru, hrv, hchr⟩ := hrel
    clear hU hV
    by_cases hlt : i < m
    · have hcv := hrv.cell i (by rw [HM.out]; exact hlt)
      obtain ⟨v, HV⟩ := name_it (V.getD i 0)
      rw [HV.out] at hcv
      have hv : v < 4294967296 := by rw [← HV.out]; exact dig_getD (by omega) dV i
      have hcu := hru.cell (o + i) (by rw [hP.len]; omega)
      have hfr := hru.frozen (o + i)
      have hLU := hP.other (o + i) (by omega)
      obtain ⟨x, HX⟩ := name_it (L.getD (o + i) 0)
      rw [HX.out] at hcu hLU
      have HLU := Lib.hid hLU.symm; clear hLU
      have hx : x < 4294967296 := by rw [← HX.out]; exact dig_getD (by omega) hP.digs _
      have hc := hP.carry
      obtain ⟨p, HPP⟩ := name_it (v * q)
      have hp : p ≤ 18446744065119617025 := by rw [← HPP.out]; exact mul_bound hv hq
      have hpe : (v : Int) * (q : Int) = (p : Int) := by rw [← HPP.out]; simp
      by_cases hb : x < (c + p) % 4294967296
      · have hst := hP.step hq HV.out dV (by omega) (x + 4294967296 - (c + p) % 4294967296) ((c + p) / 4294967296 + 1) (by omega) (by rw [HLU.out, HPP.out]; omega)
        have HST := Lib.hid hst.2
        have hb2 := hst.1
        clear hst hP
        have hbi : (x : Int) < ((c : Int) + (p : Int)) % 4294967296 := by omega
        have e1 : Hid (((x : Int) - ((c : Int) + (p : Int))) % 4294967296 = ((x + 4294967296 - (c + p) % 4294967296 : Nat) : Int)) := by show _ = _; omega
        have e2 : Hid (((c : Int) + (p : Int)) / 4294967296 + 1 = (((c + p) / 4294967296 + 1 : Nat) : Int)) := by show _ = _; omega
        go_wp2
        go_roundw
        case rel =>
          rw [e1.out, e2.out]
          exact ⟨i + 1, _, _, by omega, by go_num, rfl, HST.out, hru.store _ _, hrv.other hne _, hchr.setCell (.inl (by simp)) _⟩
        case measure => simp [intOf]; omega
      · have hst := hP.step hq HV.out dV (by omega) (x - (c + p) % 4294967296) ((c + p) / 4294967296) (by omega) (by rw [HLU.out, HPP.out]; omega)
        have HST := Lib.hid hst.2
        have hb2 := hst.1
        clear hst hP
        have hbi : ¬ (x : Int) < ((c : Int) + (p : Int)) % 4294967296 := by omega
        have e1 : Hid (((x : Int) - ((c : Int) + (p : Int))) % 4294967296 = ((x - (c + p) % 4294967296 : Nat) : Int)) := by show _ = _; omega
        have e2 : Hid (((c : Int) + (p : Int)) / 4294967296 = (((c + p) / 4294967296 : Nat) : Int)) := by show _ = _; omega
        have e3 : Hid (((x : Int) - ((c : Int) + (p : Int)) % 4294967296) = ((x - (c + p) % 4294967296 : Nat) : Int)) := by show _ = _; omega
        go_wp2
        go_roundw
        case rel =>
          rw [e2.out]
          first | rw [e1.out] | rw [e3.out]
          exact ⟨i + 1, _, _, by omega, by go_num, rfl, HST.out, hru.store _ _, hrv.other hne _, hchr.setCell (.inl (by simp)) _⟩
        case measure => simp [intOf]; omega
    · have him : i = m := by omega
      subst him
      have hcu := hru.cell (o + i) (by rw [hP.len]; exact hou)
      have hfr := hru.frozen (o + i)
      have hLU := hP.other (o + i) (by omega)
      obtain ⟨x, HX⟩ := name_it (L.getD (o + i) 0)
      rw [HX.out] at hcu hLU
      have HLU := Lib.hid hLU.symm; clear hLU
      have hx : x < 4294967296 := by rw [← HX.out]; exact dig_getD (by omega) hP.digs _
      have hc := hP.carry
      have hval := hP.value
      rw [List.take_of_length_le (by rw [HM.out]; exact Nat.le_refl _)] at hval
      have HVAL := Lib.hid hval; clear hval
      have fin : ∀ (d b : Nat), d < 4294967296 → d + c = x + 4294967296 * b →
          (L.set (o + i) d).length = U.length ∧ dig 4294967296 (L.set (o + i) d) ∧ (∀ j, (j < o ∨ o + (i + 1) ≤ j) → (L.set (o + i) d).getD j 0 = U.getD j 0) ∧
          win 4294967296 (L.set (o + i) d) o (i + 1) + q * lv 4294967296 V = win 4294967296 U o (i + 1) + 4294967296 ^ (i + 1) * b := by
        intro d b hd hb
        refine ⟨by simpa using hP.len, dig_set hP.digs _ _ hd, fun j hj => ?_, ?_⟩
        · rw [Nd.getD_set_ne (by omega)]
          exact hP.other j (by omega)
        · have h1 := HVAL.out
          have h2 : 4294967296 ^ i * (d + c) = 4294967296 ^ i * (x + 4294967296 * b) := by rw [hb]
          rw [win, win, win_set_out _ _ _ _ _ _ (by omega), Nd.getD_set_eq (by rw [hP.len]; exact hou), HLU.out, Nat.pow_succ, Nat.mul_assoc]
          simp only [Nat.mul_add] at h2
          omega
      have FIN := Lib.hid fin
      clear fin
      by_cases hb : x < c
      · have e1 : Hid (((x : Int) - (c : Int)) % 4294967296 = ((x + 4294967296 - c : Nat) : Int)) := by show _ = _; omega
        have e3 : Hid (((x : Int) - (c : Int) + 4294967296) = ((x + 4294967296 - c : Nat) : Int)) := by show _ = _; omega
        have hF := Lib.hid (FIN.out (x + 4294967296 - c) 1 (by omega) (by omega))
        clear hP
        go_wp2
        go_ret
        rw [e1.out]
        exact ⟨true, _, ret_eq (by simp), hru.store _ _, hrv.other hne _, hchr.setCell (.inl (by simp)) _, hF.out.1, hF.out.2.1, hF.out.2.2.1, by simpa using hF.out.2.2.2⟩
      · have e1 : Hid (((x : Int) - (c : Int)) = ((x - c : Nat) : Int)) := by show _ = _; omega
        have hF := Lib.hid (FIN.out (x - c) 0 (by omega) (by omega))
        clear hP
        go_wp2
        go_ret
        rw [e1.out]
        exact ⟨false, _, ret_eq (by simp), hru.store _ _, hrv.other hne _, hchr.setCell (.inl (by simp)) _, hF.out.1, hF.out.2.1, hF.out.2.2.1, by simpa using hF.out.2.2.2⟩

set_option maxRecDepth 20000 in
set_option maxHeartbeats 1600000 in
theorem addM_any (gu o cu cu' gv cv m : Nat) (U V : List Nat) (w : World) (hU : Row 120 .u32 w gu cu U) (hV : Row 120 .u32 w gv cv V) (hne : gv ≠ gu) (dU : dig 4294967296 U) (dV : dig 4294967296 V)
    (hm : V.length = m) (hmb : m ≤ 1099511627776) (hou : o + m < U.length) :
    Calls Tryz.prog 178 #[.slice (some ⟨gu, o, none⟩) (m + 1) cu', .slice (some ⟨gv, 0, none⟩) m cv] w fun e w' => ∃ (big : Bool) (L : List Nat), e = .returned (.bool big) ∧
      Row 120 .u32 w' gu cu L ∧ Row 120 .u32 w' gv cv V ∧ Chg [gu] w w' ∧ L.length = U.length ∧ dig 4294967296 L ∧ (∀ j, (j < o ∨ o + (m + 1) ≤ j) → L.getD j 0 = U.getD j 0) ∧
      win 4294967296 L o (m + 1) + 4294967296 ^ (m + 1) * big.toNat = win 4294967296 U o (m + 1) + lv 4294967296 V := by
  have HM := Lib.hid hm; clear hm
  go_enter Tryz.func178, Tryz.ntmps178
  go_wp2_with fail
  go_loopw [5, 10] (fun cv' iv wr => ∃ (i c : Nat) (L : List Nat), i ≤ m ∧ iv = .int .i64 i ∧ cv' = .int .u64 c ∧ AddM U V o i c L ∧ Row 120 .u32 wr gu cu L ∧ Row 120 .u32 wr gv cv V ∧ Chg [gu] w wr)
    (fun _ iv _ => m - (intOf iv).toNat)
  case atStart => exact ⟨0, 0, U, Nat.zero_le _, rfl, rfl, AddM.start o dU, hU, hV, Chg.refl _ _⟩
  case round =>
    obtain ⟨i, c, L, hile, rfl, rfl, hP, hru, hrv, hchr⟩ := hrel
    clear hU hV
    by_cases hlt : i < m
    · have hcv := hrv.cell i (by rw [HM.out]; exact hlt)
      obtain ⟨v, HV⟩ := name_it (V.getD i 0)
      rw [HV.out] at hcv
      have hv : v < 4294967296 := by rw [← HV.out]; exact dig_getD (by omega) dV i
      have hcu := hru.cell (o + i) (by rw [hP.len]; omega)
      have hfr := hru.frozen (o + i)
      have hst := hP.step HV.out dV (by omega)
      have hLU := hP.other (o + i) (by omega)
      obtain ⟨x, HX⟩ := name_it (L.getD (o + i) 0)
      rw [HX.out] at hcu hLU
      rw [← hLU] at hst
      have HST := Lib.hid hst
      clear hLU hst
      have hx : x < 4294967296 := by rw [← HX.out]; exact dig_getD (by omega) hP.digs _
      have hc := hP.carry
      have e1 : Hid (((c : Int) + ((x : Int) + (v : Int))) % 4294967296 = (((c + (x + v)) % 4294967296 : Nat) : Int)) := by show _ = _; omega
      have e2 : Hid (((c : Int) + ((x : Int) + (v : Int))) / 4294967296 = (((c + (x + v)) / 4294967296 : Nat) : Int)) := by show _ = _; omega
      clear hP
      go_wp2
      go_roundw
      case rel =>
        rw [e1.out, e2.out]
        exact ⟨i + 1, _, _, by omega, by go_num, rfl, HST.out, hru.store _ _, hrv.other hne _, hchr.setCell (.inl (by simp)) _⟩
      case measure => simp [intOf]; omega
    · have him : i = m := by omega
      subst him
      have hcu := hru.cell (o + i) (by rw [hP.len]; exact hou)
      have hfr := hru.frozen (o + i)
      have hLU := hP.other (o + i) (by omega)
      obtain ⟨x, HX⟩ := name_it (L.getD (o + i) 0)
      rw [HX.out] at hcu hLU
      have HLU := Lib.hid hLU.symm; clear hLU
      have hx : x < 4294967296 := by rw [← HX.out]; exact dig_getD (by omega) hP.digs _
      have hc := hP.carry
      have hval := hP.value
      rw [List.take_of_length_le (by rw [HM.out]; exact Nat.le_refl _)] at hval
      have HVAL := Lib.hid hval; clear hval
      have fin : ∀ (d b : Nat), d < 4294967296 → c + x = d + 4294967296 * b →
          (L.set (o + i) d).length = U.length ∧ dig 4294967296 (L.set (o + i) d) ∧ (∀ j, (j < o ∨ o + (i + 1) ≤ j) → (L.set (o + i) d).getD j 0 = U.getD j 0) ∧
          win 4294967296 (L.set (o + i) d) o (i + 1) + 4294967296 ^ (i + 1) * b = win 4294967296 U o (i + 1) + lv 4294967296 V := by
        intro d b hd hb
        refine ⟨by simpa using hP.len, dig_set hP.digs _ _ hd, fun j hj => ?_, ?_⟩
        · rw [Nd.getD_set_ne (by omega)]
          exact hP.other j (by omega)
        · have h1 := HVAL.out
          have h2 : 4294967296 ^ i * (c + x) = 4294967296 ^ i * (d + 4294967296 * b) := by rw [hb]
          rw [win, win, win_set_out _ _ _ _ _ _ (by omega), Nd.getD_set_eq (by rw [hP.len]; exact hou), HLU.out, Nat.pow_succ, Nat.mul_assoc]
          simp only [Nat.mul_add] at h2
          omega
      have FIN := Lib.hid fin
      clear fin
      have e1 : Hid (((c : Int) + (x : Int)) % 4294967296 = (((c + x) % 4294967296 : Nat) : Int)) := by show _ = _; omega
      by_cases hb : c + x < 4294967296
      · have hF := Lib.hid (FIN.out (c + x) 0 (by omega) (by omega))
        have e1 : Hid (((c : Int) + (x : Int)) = ((c + x : Nat) : Int)) := by show _ = _; omega
        have hbi : (((c : Int) + (x : Int)) / 4294967296 != 0) = false := by rw [bne_eq_false_iff_eq]; omega
        clear hP
        go_wp2
        go_ret
        rw [e1.out]
        exact ⟨false, _, ret_eq (by rfl), hru.store _ _, hrv.other hne _, hchr.setCell (.inl (by simp)) _, hF.out.1, hF.out.2.1, hF.out.2.2.1, by simpa using hF.out.2.2.2⟩
      · have hF := Lib.hid (FIN.out ((c + x) % 4294967296) 1 (by omega) (by omega))
        have hbi : (((c : Int) + (x : Int)) / 4294967296 != 0) = true := by rw [bne_iff_ne]; omega
        clear hP
        go_wp2
        go_ret
        rw [e1.out]
        exact ⟨true, _, ret_eq (by rfl), hru.store _ _, hrv.other hne _, hchr.setCell (.inl (by simp)) _, hF.out.1, hF.out.2.1, hF.out.2.2.1, by simpa using hF.out.2.2.2⟩

end Go.Proofs.YtogciehmdlfkfaaGreatDoor
