/-
  Several parts put together: R1, R2, R3, R4, R5.
-/
import Derived.Test.YtogciehmdlfkfaaGreatDoorGF
/- Part R1. -/

namespace Go.Proofs.YtogciehmdlfkfaaGreatDoor
open Go.RowKit Nd

set_option maxRecDepth 20000 in
set_option maxHeartbeats 400000 in
theorem rnormalize_any (s : ByteArray) (w : World) (hs : s.size ≤ 9223372036854775807) :
    Calls Tryz.prog 110 #[.string s] w fun e w' => e = .returned (.string (nrmB s)) ∧ w = w' := by
  go_enter Tryz.func110, Tryz.ntmps110
  go_wp2
  go_loop [3] (fun v => ∃ k : Nat, k ≤ s.size ∧ v = .int .i64 k ∧ (∀ j, j < k → s.data.toList[j]? = some 0)) (fun v => s.size - (intOf v).toNat)
  case atStart => exact ⟨0, Nat.zero_le _, rfl, fun j hj => absurd hj (by omega)⟩
  case round =>
    obtain ⟨k, hk, rfl, hz⟩ := hrel
    have HZ := Lib.hid hz; clear hz
    by_cases h0 : k < s.size
    · by_cases h1 : ((s[k].toNat : Int) == 0) = true
      · have H1 := Lib.hid h1
        go_wp2
        go_round
        case rel =>
          refine ⟨k + 1, by omega, by go_num, fun j hj => ?_⟩
          by_cases hj' : j = k
          · subst hj'
            rw [byte_get s j h0, byte_zero.1 H1.out]
          · exact HZ.out j (by omega)
        case measure => simp [intOf]; omega
      · have h2 : ((s[k].toNat : Int) == 0) = false := by simpa using h1
        have HE : Hid (s.extract k s.size = nrmB s) := nrmB_drop s k hk HZ.out (by rw [byte_get s k h0]; intro he; exact h1 (byte_zero.2 (Option.some.inj he)))
        clear h1
        go_wp2
        go_ret
        exact ⟨ret_eq (by rw [← HE.out]; rfl), rfl⟩
    · have HE : Hid (s.extract k s.size = nrmB s) := nrmB_drop s k hk HZ.out (by rw [byte_none s k (by omega)]; simp)
      go_wp2
      go_ret
      exact ⟨ret_eq (by rw [← HE.out]; rfl), rfl⟩
set_option maxRecDepth 20000 in
set_option maxHeartbeats 1000000 in
theorem limbs_any (s : ByteArray) (w : World) (hs : s.size ≤ 1099511627776) :
    Calls Tryz.prog 101 #[.string s] w fun e w' => ∃ g cap xs, e = .returned (.slice (some ⟨g, 0, none⟩) xs.length cap) ∧ Row 120 .u32 w' g cap xs ∧ w.heap.size ≤ g ∧
      dig 4294967296 xs ∧ noz xs ∧ lv 4294967296 xs = val s ∧ 4 * xs.length ≤ s.size + 3 ∧ Chg [] w w' := by
  obtain ⟨p, HP⟩ := name_it (nrmB s)
  have hp1 : p.size ≤ 1099511627776 := by rw [← HP.out]; exact Nat.le_trans (nrmB_size s) hs
  obtain ⟨n, HN⟩ := name_it ((p.size + 3) / 4)
  have hn3 : n ≤ 1099511627776 := by have := HN.out; omega
  obtain ⟨i0, hi, hz0, hz1, hz2⟩ := info_parts Tryz.info32
  go_enter Tryz.func101, Tryz.ntmps101
  go_wp2_with fail
  refine (rnormalize_any s _ (by omega)).mono ?_
  rintro e w' ⟨rfl, rfl⟩
  rw [HP.out]
  go_wp2_with (at_make; refine wpList_make_cap _ rfl (.tmp 10) (.tmp 10) 118 rfl 120 i0 .u32 Tryz.underlying118 hi hz0 hz1 .i64 .i64 _ _ n n rfl rfl (by have := HN.out; omega) (by have := HN.out; omega) (Nat.le_refl _) (by rw [hz2]; omega) (by omega) ?_)
  intro w1 hrow hch
  obtain ⟨g, HG⟩ := name_it w.heap.size
  rw [HG.out] at hrow ⊢
  clear hi hz0 hz1 hz2
  have hpn : Hid (nolead p.data.toList) := by rw [← HP.out]; exact (Is_nrmB s).2
  have hpv : Hid (val p = val s) := by rw [← HP.out]; exact val_nrmB s
  go_wp2_with fail
  go_loopw [4] (fun iv wr => ∃ (k : Nat) (L : List Nat), k ≤ p.size ∧ iv = .int .i64 k ∧ Pack (R p) n k L ∧ Row 120 .u32 wr g n L ∧ Chg [] w wr)
    (fun iv _ => p.size - (intOf iv).toNat)
  case atStart => exact ⟨0, List.replicate n 0, Nat.zero_le _, rfl, Pack.start _ _, hrow, hch⟩
  case round =>
    obtain ⟨k, L, hk, rfl, hP, hr, hchr⟩ := hrel
    clear hrow hch
    by_cases hlt : k < p.size
    · have hq1 : k / 4 < L.length := by have := HN.out; rw [hP.len]; omega
      have hq2 : k / 4 < n := by have := HN.out; omega
      have hcy := hr.cell (k / 4) hq1
      have hfr : wr.frozen? ⟨g, k / 4, none⟩ = false := hr.frozen _
      have hg := R_get p k (p.size - 1 - k) (by omega)
      have HGT := Lib.hid hg; clear hg
      have hb := p[p.size - 1 - k].toNat_lt
      have hst := hP.step (b := p[p.size - 1 - k].toNat) hb (by have := HN.out; omega) HGT.out.symm
      obtain ⟨x, HX⟩ := name_it (L.getD (k / 4) 0)
      rw [HX.out] at hcy hst
      have HST := Lib.hid hst; clear hst
      have hix : ∀ W : World, (Instr.index 9 (.string p) (.int .i64 ((p.size : Int) - 1 - (k : Int)))).run Tryz.prog W = .ok (.int .u8 ((p[p.size - 1 - k].toNat : Nat) : Int)) W := by
        intro W
        rw [run_index_string W 9 p .i64 _ Tryz.underlying9, dif_pos (by omega)]
        have : ((p.size : Int) - 1 - (k : Int)).toNat = p.size - 1 - k := by omega
        simp only [this]
      obtain ⟨c, HC⟩ := name_it p[p.size - 1 - k].toNat
      rw [HC.out] at hb
      simp only [HC.out] at hix
      obtain ⟨r, HR⟩ := name_it (k % 4)
      have hr4 : r < 4 := by rw [← HR.out]; omega
      have e1 : Hid (bits BinOp.or IntKind.u32 (x : Int) ((c : Int) * 2 ^ (8 * (k % 4)) % 4294967296) = ((x + c * 256 ^ (k % 4) : Nat) : Int)) := by
        rw [HR.out]
        have h1 : (256 : Nat) ^ r = 2 ^ (8 * r) := by rw [show (256 : Nat) = 2 ^ 8 from rfl, ← Nat.pow_mul]
        have hx := HST.out.1
        rw [HR.out, h1] at hx
        have h2 : (2 : Nat) ^ (8 * r) ≤ 2 ^ 24 := Nat.pow_le_pow_right (by omega) (by omega)
        have h3 : c * 2 ^ (8 * r) ≤ 255 * 2 ^ (8 * r) := Nat.mul_le_mul_right _ (by omega)
        have h5 : c * 2 ^ (8 * r) < 2 ^ 32 := by omega
        have h4 := or_u32' c x (8 * r) (by omega) h5 hx
        have h6 : ((c : Int) * 2 ^ (8 * r) % 4294967296) = ((c * 2 ^ (8 * r) : Nat) : Int) := by
          have h7 : ((c : Int) * 2 ^ (8 * r)) = ((c * 2 ^ (8 * r) : Nat) : Int) := by simp
          rw [h7]
          have h8 : ((c * 2 ^ (8 * r) : Nat) : Int) < 4294967296 := by omega
          omega
        show _ = _
        rw [h6, h4, h1, Nat.add_comm]
      go_wp2
      go_region
      all_goals
        go_wp2
        go_roundw
        case rel =>
          rw [e1.out]
          have h2 := HST.out.2
          rw [HC.out] at h2
          exact ⟨k + 1, _, by omega, by go_num, h2, (hr.store _ _).drew, (hchr.setCell (.inr (by rw [← HG.out]; exact Nat.le_refl _)) _).drew⟩
        case measure => simp [intOf]; omega
    · have hkp : k = p.size := by omega
      have hll : (R p).length = p.size := R_length p
      have HL : Hid (L.length = n) := hP.len
      have HP2 : Hid (noz L ∧ lv 4294967296 L = val s) := by
        refine ⟨?_, ?_⟩
        · refine Pack.noz (bs := R p) (n := n) ?_ ?_ ?_
          · rw [hll, ← hkp]; exact hP
          · rw [hll, ← HN.out]
          · intro hne
            rw [hll]
            have := bv_ge p.data.toList hpn.out (by intro h; apply hne; simp [R, rb, h])
            simpa [R, lv_rb] using this
        · rw [hP.value, lv_take_all _ _ _ (by omega), lv_R, hpv.out]
      have hdig := hP.digs
      clear hkp hll
      go_wp2
      go_ret
      refine ⟨g, n, L, ret_eq (by rw [HL.out]; rfl), hr, by rw [← HG.out]; exact Nat.le_refl _, hdig, HP2.out.1, HP2.out.2, ?_, hchr⟩
      have h1 := HN.out
      have h2 := nrmB_size s
      rw [HP.out] at h2
      rw [HL.out]
      omega


set_option maxRecDepth 20000 in
set_option maxHeartbeats 400000 in
theorem strip_row (g cap : Nat) (xs : List Nat) (w : World) (hr : Row 120 .u32 w g cap xs) :
    Calls Tryz.prog 123 #[.slice (some ⟨g, 0, none⟩) xs.length cap] w fun e w' => e = .returned (.slice (some ⟨g, 0, none⟩) (tl xs) cap) ∧ w = w' := by
  have hf := hr.fits
  obtain ⟨m, HM⟩ := name_it xs.length
  rw [HM.out] at hf ⊢
  obtain ⟨hf1, hf2⟩ := hf
  go_enter Tryz.func123, Tryz.ntmps123
  go_wp2_with fail
  go_loop [3] (fun v => ∃ k : Nat, k ≤ m ∧ v = .int .i64 k ∧ (∀ j, k ≤ j → xs.getD j 0 = 0)) (fun v => (intOf v).toNat)
  case atStart => exact ⟨m, Nat.le_refl _, rfl, fun j hj => getD_ge _ _ (by rw [HM.out]; exact hj)⟩
  case round =>
    obtain ⟨k, hk, rfl, hz⟩ := hrel
    have HZ := Lib.hid hz; clear hz
    by_cases h0 : 0 < k
    · have hcell := hr.cell (k - 1) (by rw [HM.out]; omega)
      obtain ⟨x, HX⟩ := name_it (xs.getD (k - 1) 0)
      rw [HX.out] at hcell
      by_cases hv : x = 0
      · subst hv
        go_wp2_with fail
        go_round
        case rel =>
          refine ⟨k - 1, by omega, by congr 1; omega, fun j hj => ?_⟩
          by_cases hj' : j = k - 1
          · rw [hj']; exact HX.out
          · exact HZ.out j (by omega)
        case measure => simp [intOf]; omega
      · have hb : ((x : Int) == 0) = false := by rw [beq_eq_false_iff_ne]; omega
        have he : Hid (tl xs = k) := tl_of xs k HZ.out (fun _ => by rw [HX.out]; exact hv)
        go_wp2_with fail
        go_ret
        exact ⟨ret_eq (by rw [he.out]; rfl), rfl⟩
    · have he : Hid (tl xs = k) := tl_of xs k HZ.out (fun h => absurd h h0)
      go_wp2_with fail
      go_ret
      exact ⟨ret_eq (by rw [he.out]; rfl), rfl⟩

set_option maxRecDepth 20000 in
theorem strip_nil (w : World) :
    Calls Tryz.prog 123 #[.slice none 0 0] w fun e w' => e = .returned (.slice none 0 0) ∧ w = w' := by
  go_enter Tryz.func123, Tryz.ntmps123
  go_wp2_with fail
  go_loop [3] (fun v => v = .int .i64 0) (fun _ => 0)
  case atStart => rfl
  case round =>
    obtain rfl := hrel
    go_wp2_with fail
    go_ret
    exact ⟨rfl, rfl⟩

end Go.Proofs.YtogciehmdlfkfaaGreatDoor

/- Part R2. -/

namespace Go.Proofs.YtogciehmdlfkfaaGreatDoor
open Go.RowKit Nd

set_option maxRecDepth 20000 in
set_option maxHeartbeats 1000000 in
theorem text_row (g cap : Nat) (xs : List Nat) (w : World) (hr : Row 120 .u32 w g cap xs) (hd : dig 4294967296 xs) (hn : xs.length ≤ 1099511627776) :
    Calls Tryz.prog 102 #[.slice (some ⟨g, 0, none⟩) xs.length cap] w fun e w' => ∃ s, e = .returned (.string s) ∧ Is s (lv 4294967296 xs) ∧ Chg [] w w' := by
  obtain ⟨i0, hi, hz0, hz1, hz2⟩ := info_parts Tryz.info8
  have hrt : Row _ _ _ _ _ (trim xs) := hr.take (tl xs) (tl_le xs)
  have hdt := trim_dig hd
  have hlt : (trim xs).length = tl xs := trim_length xs
  obtain ⟨ys, HY⟩ := name_it (trim xs)
  have hv : Hid (lv 4294967296 ys = lv 4294967296 xs) := by rw [← HY.out]; exact lv_trim _ _
  rw [HY.out] at hrt hdt hlt
  obtain ⟨m, HM⟩ := name_it (tl xs)
  have hml : Hid (ys.length = m) := by rw [← HM.out]; exact hlt
  have hmb : m ≤ 1099511627776 := by have := tl_le xs; have := HM.out; omega
  obtain ⟨n, HN⟩ := name_it (4 * m)
  have hn4 : n ≤ 4398046511104 := by have := HN.out; omega
  clear hlt
  go_enter Tryz.func102, Tryz.ntmps102
  go_wp2_with fail
  refine (strip_row g cap xs _ hr).mono ?_
  rintro e w' ⟨rfl, rfl⟩
  rw [HM.out]
  clear hr hd hn
  go_wp2_with (at_make; refine wpList_make_cap _ rfl (.const (.int .i64 0)) (.tmp 10) 51 rfl 5 i0 .u8 Tryz.underlying51 hi hz0 hz1 .i64 .i64 _ _ 0 n rfl rfl rfl (by have := HN.out; omega) (Nat.zero_le _) (by rw [hz2]; omega) (by omega) ?_)
  intro w1 hrow hch
  have hne : g ≠ w.heap.size := by have := hrt.lt; omega
  have hrt1 := hrt.keep hch (by simp)
  obtain ⟨b, HG⟩ := name_it w.heap.size
  rw [HG.out] at hrow hne ⊢
  go_wp2_with fail
  go_loopw [3, 4] (fun bv' iv wr => ∃ (t g1 c1 : Nat) (T : List Nat), t ≤ m ∧ iv = .int .i64 ((t : Int) - 1) ∧ bv' = .slice (some ⟨g1, 0, none⟩) T.length c1 ∧ T = (bytesOf (ys.drop t)).reverse ∧ Row 5 .u8 wr g1 c1 T ∧ w.heap.size ≤ g1 ∧ g ≠ g1 ∧ Row 120 .u32 wr g cap ys ∧ Chg [] w wr)
    (fun _ iv _ => (intOf iv + 1).toNat)
  case atStart => exact ⟨m, b, n, [], Nat.le_refl _, rfl, rfl, by rw [List.drop_eq_nil_of_le (by rw [hml.out]; exact Nat.le_refl _)]; rfl, hrow, by rw [HG.out]; exact Nat.le_refl _, hne, hrt1, hch⟩
  case round =>
    obtain ⟨t, g1, c1, T, ht, rfl, rfl, hT, hr1, hg1, hne1, hry, hchr⟩ := hrel
    have HTT := Lib.hid hT
    clear hrow hrt1 hch hrt hT hne
    have hTl : T.length = (4 * (m - t)) := by rw [HTT.out, List.length_reverse, bytesOf_length, List.length_drop, hml.out]
    by_cases ht0 : 1 ≤ t
    · obtain ⟨i, rfl⟩ : ∃ i, t = i + 1 := ⟨t - 1, by omega⟩
      have hii : ((i + 1 : Nat) : Int) - 1 = (i : Int) := by omega
      rw [hii]
      clear hii ht0
      have hcy := hry.cell i (by rw [hml.out]; omega)
      have hbo := bytesOf_drop ys i (by rw [hml.out]; omega)
      obtain ⟨x, HX⟩ := name_it (ys.getD i 0)
      rw [HX.out] at hcy hbo
      rw [← HTT.out] at hbo
      have HBO := Lib.hid hbo
      clear hbo
      obtain ⟨l, HL⟩ := name_it T.length
      have hlb : l ≤ 4398046511104 := by have := HL.out; omega
      rw [HL.out]
      clear hTl
      go_wp2_with (at_builtin; refine wpList_append_row _ rfl (.tmp 23) (.tmp 35) 51 rfl 5 i0 .u8 Tryz.underlying51 hi hz0 hz1 (by rw [hz2]; omega) g1 c1 T l HL.out rfl (hr1.keep ((Chg.refl [] wr).alloc _) (by simp)) [x / 16777216 % 256, x / 65536 % 256, x / 256 % 256, x % 256] 4 rfl ⟨wr.heap.size, 0, none⟩ 4 rfl (cells_alloc wr _ 5 .u8 [x / 16777216 % 256, x / 65536 % 256, x / 256 % 256, x % 256] (by simp [vals]) (by simp)) (by omega) ?_)
      intro g2 c2 w2 hr2 hg2 hch2
      rw [HBO.out] at hr2
      have hg3 : w.heap.size ≤ g2 := by
        rcases hg2 with h | h
        · rw [h]; exact hg1
        · have := hchr.size; omega
      have hry2 := (hry.keep ((Chg.refl [] wr).alloc _) (by simp)).keep hch2 (by simpa using hne1)
      have hne2 : g ≠ g2 := by
        rcases hg2 with h | h
        · rw [h]; exact hne1
        · have := hry.lt; omega
      have hch3 : Chg [] w w2 := (hchr.alloc _).fresh hch2 hg1
      have hl4 : l + 4 = ((bytesOf (ys.drop i)).reverse).length := by rw [← HBO.out, List.length_append, HL.out]; rfl
      have HL4 := Lib.hid hl4
      clear hl4 hr1 hry hchr hch2 hg2 hne1 hg1
      go_wp2_with fail
      go_roundw
      case rel => exact ⟨i, g2, c2, _, by omega, rfl, by rw [← HL4.out], rfl, hr2, hg3, hne2, hry2, hch3⟩
      case measure => simp [intOf]
    · have ht1 : t = 0 := by omega
      subst ht1
      have hTb : T = (bytesOf ys).reverse := by rw [HTT.out]; simp
      have hl2 : T.length = n := by rw [hTl, ← HN.out]; omega
      have hstr := run_str hr1
      have hvz : Hid (val (strOf T) = lv 4294967296 xs) := by
        show val (strOf T) = _
        rw [val_strOf _ (by rw [hTb]; exact fun y hy => bytesOf_dig ys y (by simpa using hy)), hTb, List.reverse_reverse, lv_bytesOf _ hdt, hv.out]
      have hsz : T.length ≤ 4398046511104 := by rw [hl2]; exact hn4
      clear hTb hl2 hTl
      go_wp2_with (go_at_call 110; (with_reducible refine (rnormalize_any _ _ (by rw [strOf_size]; omega)).mono ?_); rintro e w' ⟨rfl, rfl⟩)
      go_ret
      exact ⟨_, rfl, by rw [← hvz.out]; exact Is_nrmB _, hchr⟩

set_option maxRecDepth 20000 in
set_option maxHeartbeats 400000 in
theorem text_nil (w : World) :
    Calls Tryz.prog 102 #[.slice none 0 0] w fun e w' => ∃ s, e = .returned (.string s) ∧ Is s 0 ∧ Chg [] w w' := by
  obtain ⟨i0, hi, hz0, hz1, hz2⟩ := info_parts Tryz.info8
  go_enter Tryz.func102, Tryz.ntmps102
  go_wp2_with fail
  refine (strip_nil _).mono ?_
  rintro e w' ⟨rfl, rfl⟩
  go_wp2_with (at_make; refine wpList_make_cap _ rfl (.const (.int .i64 0)) (.tmp 10) 51 rfl 5 i0 .u8 Tryz.underlying51 hi hz0 hz1 .i64 .i64 _ _ 0 0 rfl rfl rfl (by omega) (Nat.zero_le _) (by omega) (by omega) ?_)
  intro w1 hrow hch
  obtain ⟨b, HG⟩ := name_it w.heap.size
  rw [HG.out] at hrow ⊢
  clear hi hz0 hz1 hz2
  have hstr : (convert 51 9 (.slice (some ⟨b, 0, none⟩) 0 0)).run Tryz.prog w1 = .ok (.string (strOf [])) w1 := run_str hrow
  have H0 : Hid (val (strOf []) = 0) := by show val (strOf []) = 0; rw [val_strOf _ (dig_nil _)]; rfl
  go_wp2_with fail
  go_loop [3, 4] (fun bv iv => bv = .slice (some ⟨b, 0, none⟩) 0 0 ∧ iv = .int .i64 (-1)) (fun _ _ => 0)
  case atStart => exact ⟨rfl, rfl⟩
  case round =>
    obtain ⟨rfl, rfl⟩ := hrel
    go_wp2_with (go_at_call 110; (with_reducible refine (rnormalize_any _ _ (by rw [strOf_size]; simp)).mono ?_); rintro e w' ⟨rfl, rfl⟩)
    go_ret
    exact ⟨_, rfl, by rw [← H0.out]; exact Is_nrmB _, hch⟩

theorem text_any {v : Value} {xs : List Nat} (w : World) (h : Sl w v xs) (hd : dig 4294967296 xs) (hn : xs.length ≤ 1099511627776) :
    Calls Tryz.prog 102 #[v] w fun e w' => ∃ s, e = .returned (.string s) ∧ Is s (lv 4294967296 xs) ∧ Chg [] w w' := by
  cases h with
  | nil => exact text_nil w
  | row g cap _ hr => exact text_row g cap xs w hr hd hn

end Go.Proofs.YtogciehmdlfkfaaGreatDoor

/- Part R3. -/

namespace Go.Proofs.YtogciehmdlfkfaaGreatDoor
open Go.RowKit Nd

set_option maxRecDepth 20000 in
theorem rfromUint_any (u : Nat) (w : World) (hu : u < 18446744073709551616) :
    Calls Tryz.prog 74 #[.int .u64 u] w fun e w' => ∃ s, e = .returned (.string s) ∧ Is s u ∧ Chg [] w w' := by
  go_enter Tryz.func74, Tryz.ntmps74
  go_wp2_with fail
  have hrow : Row 120 .u32 (w.alloc (Obj.cells #[Value.int IntKind.u32 (↑u % 4294967296), Value.int IntKind.u32 (↑u / 4294967296)] 120)) w.heap.size 2 [u % 4294967296, u / 4294967296] :=
    Row.of_alloc w _ [u % 4294967296, u / 4294967296] (by simp [vals]) (by simp)
  have hd : dig 4294967296 [u % 4294967296, u / 4294967296] := dig_cons (by omega) (dig_cons (by omega) (dig_nil _))
  refine (text_row w.heap.size 2 _ _ hrow hd (by simp)).mono ?_
  rintro e w1 ⟨s, rfl, hs, hc⟩
  have hch : Chg [] w w1 := ((Chg.refl [] w).alloc _).then hc
  clear hc hrow hd
  have HS : Hid (Is s u) := by
    have : lv 4294967296 [u % 4294967296, u / 4294967296] = u := by simp; omega
    rwa [this] at hs
  clear hs
  go_wp2_with fail
  go_ret
  exact ⟨_, rfl, HS.out, hch⟩


theorem lv_lt_of_len {B : Nat} {X Y : List Nat} (hB : 1 < B) (dX : dig B X) (nY : noz Y) (h : X.length < Y.length) : lv B X < lv B Y := lv_small hB dX nY h

/-- The digits from k on agree. -/
theorem ord_top {X Y : List Nat} {k n : Nat} (hX : X.length = n) (hY : Y.length = n) (dX : dig 4294967296 X) (_dY : dig 4294967296 Y) (h : X.drop (k + 1) = Y.drop (k + 1)) (hk : k < n) (hlt : X.getD k 0 < Y.getD k 0) : lv 4294967296 X < lv 4294967296 Y := by
  rw [lv_take_drop _ X (k + 1) (by omega), lv_take_drop _ Y (k + 1) (by omega), h, lv_take_step, lv_take_step]
  have h1 := lv_lt (B := 4294967296) (by omega) _ (dig_take dX k)
  rw [List.length_take, Nat.min_eq_left (by omega)] at h1
  have h2 : 4294967296 ^ k * (X.getD k 0 + 1) ≤ 4294967296 ^ k * Y.getD k 0 := Nat.mul_le_mul_left _ hlt
  rw [Nat.mul_add] at h2
  omega

set_option maxRecDepth 20000 in
set_option maxHeartbeats 1000000 in
theorem order_any (gx cx gy cy : Nat) (X Y : List Nat) (w : World) (hX : Row 120 .u32 w gx cx X) (hY : Row 120 .u32 w gy cy Y) (dX : dig 4294967296 X) (dY : dig 4294967296 Y) (nX : noz X) (nY : noz Y) :
    Calls Tryz.prog 155 #[.slice (some ⟨gx, 0, none⟩) X.length cx, .slice (some ⟨gy, 0, none⟩) Y.length cy] w fun e w' => e = .returned (.int .i64 (ord (lv 4294967296 X) (lv 4294967296 Y))) ∧ Chg [] w w' := by
  have hfx := hX.fits
  have hfy := hY.fits
  obtain ⟨r, HR⟩ := name_it (ord (lv 4294967296 X) (lv 4294967296 Y))
  obtain ⟨nx, HNX⟩ := name_it X.length
  obtain ⟨ny, HNY⟩ := name_it Y.length
  rw [HR.out, HNX.out, HNY.out]
  rw [HNX.out] at hfx
  rw [HNY.out] at hfy
  obtain ⟨hf1, hf2⟩ := hfx
  obtain ⟨hf3, hf4⟩ := hfy
  rcases Nat.lt_trichotomy nx ny with h | h | h
  · have hr : Hid (r = -1) := by rw [← HR.out]; exact ord_lt (lv_lt_of_len (by omega) dX nY (by rw [HNX.out, HNY.out]; exact h))
    go_enter Tryz.func155, Tryz.ntmps155
    go_wp2_with fail
    go_ret
    exact ⟨ret_eq (by rw [hr.out]; rfl), Chg.refl _ _⟩
  · subst h
    go_enter Tryz.func155, Tryz.ntmps155
    go_wp2_with fail
    go_loopw [5] (fun iv wr => ∃ t : Nat, t ≤ nx ∧ iv = .int .i64 ((t : Int) - 1) ∧ X.drop t = Y.drop t ∧ Row 120 .u32 wr gx cx X ∧ Row 120 .u32 wr gy cy Y ∧ Chg [] w wr) (fun iv _ => (intOf iv + 1).toNat)
    case atStart => exact ⟨nx, Nat.le_refl _, rfl, by rw [List.drop_eq_nil_of_le (by rw [HNX.out]; exact Nat.le_refl _), List.drop_eq_nil_of_le (by rw [HNY.out]; exact Nat.le_refl _)], hX, hY, Chg.refl _ _⟩
    case round =>
      obtain ⟨t, ht, rfl, hdr, hx, hy, hch⟩ := hrel
      have HD := Lib.hid hdr
      clear hX hY hdr
      by_cases ht0 : 1 ≤ t
      · obtain ⟨i, rfl⟩ : ∃ i, t = i + 1 := ⟨t - 1, by omega⟩
        have hii : ((i + 1 : Nat) : Int) - 1 = (i : Int) := by omega
        rw [hii]
        clear hii ht0
        have c1 := hx.cell i (by rw [HNX.out]; omega)
        have c2 := hy.cell i (by rw [HNY.out]; omega)
        obtain ⟨a, HA⟩ := name_it (X.getD i 0)
        obtain ⟨b, HB⟩ := name_it (Y.getD i 0)
        rw [HA.out] at c1
        rw [HB.out] at c2
        have hi1 : (i : Int) < (nx : Int) := by omega
        have hi0 : (0 : Int) ≤ (i : Int) := by omega
        rcases Nat.lt_trichotomy a b with h | h | h
        · have hr : Hid (r = -1) := by rw [← HR.out]; exact ord_lt (ord_top HNX.out HNY.out dX dY HD.out (by omega) (by rw [HA.out, HB.out]; exact h))
          have hb : ((a : Int) != (b : Int)) = true := by rw [bne_iff_ne]; omega
          have hb2 : (a : Int) < (b : Int) := by omega
          go_wp2_with fail
          go_region
          all_goals
            go_wp2_with fail
            go_region
            all_goals
              go_wp2_with fail
              go_ret
              exact ⟨ret_eq (by rw [hr.out]; rfl), hch.drew.drew⟩
        · have hst : Hid (X.drop i = Y.drop i) := by
            have l1 : i < X.length := by rw [HNX.out]; omega
            have l2 : i < Y.length := by rw [HNY.out]; omega
            have e1 := List.drop_eq_getElem_cons l1
            have e2 := List.drop_eq_getElem_cons l2
            have a1 := HA.out
            have b1 := HB.out
            rw [getD_lt _ _ l1] at a1
            rw [getD_lt _ _ l2] at b1
            show X.drop i = Y.drop i
            rw [e1, e2, HD.out, a1, b1, h]
          have hb : ((a : Int) != (b : Int)) = false := by rw [bne_eq_false_iff_eq]; omega
          clear h
          go_wp2_with fail
          go_region
          all_goals
            go_wp2_with fail
            go_roundw
            case rel => exact ⟨i, by omega, rfl, hst.out, hx.drew, hy.drew, hch.drew⟩
            case measure => simp [intOf]
        · have hr : Hid (r = 1) := by rw [← HR.out]; exact ord_gt (ord_top HNY.out HNX.out dY dX HD.out.symm (by omega) (by rw [HA.out, HB.out]; exact h))
          have hb : ((a : Int) != (b : Int)) = true := by rw [bne_iff_ne]; omega
          have hb2 : ¬ (a : Int) < (b : Int) := by omega
          go_wp2_with fail
          go_region
          all_goals
            go_wp2_with fail
            go_region
            all_goals
              go_wp2_with fail
              go_ret
              exact ⟨ret_eq (by rw [hr.out]; rfl), hch.drew.drew⟩
      · have ht1 : t = 0 := by omega
        have hr : Hid (r = 0) := by
          have h1 := HD.out
          rw [ht1, List.drop_zero, List.drop_zero] at h1
          rw [← HR.out, h1]; exact ord_eq rfl
        subst ht1
        go_wp2_with fail
        go_ret
        exact ⟨ret_eq (by rw [hr.out]; rfl), hch⟩
  · have hr : Hid (r = 1) := by rw [← HR.out]; exact ord_gt (lv_lt_of_len (by omega) dY nX (by rw [HNX.out, HNY.out]; exact h))
    go_enter Tryz.func155, Tryz.ntmps155
    go_wp2_with fail
    go_ret
    exact ⟨ret_eq (by rw [hr.out]; rfl), Chg.refl _ _⟩

end Go.Proofs.YtogciehmdlfkfaaGreatDoor

/- Part R4. -/

namespace Go.Proofs.YtogciehmdlfkfaaGreatDoor
open Go.RowKit Nd

set_option maxRecDepth 20000 in
set_option maxHeartbeats 1600000 in
theorem times_any (ga ca gb cb : Nat) (A C : List Nat) (w : World) (hA : Row 120 .u32 w ga ca A) (hC : Row 120 .u32 w gb cb C) (dA : dig 4294967296 A) (dC : dig 4294967296 C)
    (la : A.length ≤ 1099511627776) (lc : C.length ≤ 1099511627776) :
    Calls Tryz.prog 122 #[.slice (some ⟨ga, 0, none⟩) A.length ca, .slice (some ⟨gb, 0, none⟩) C.length cb] w fun e w' => ∃ g c L, e = .returned (.slice (some ⟨g, 0, none⟩) L.length c) ∧
      Row 120 .u32 w' g c L ∧ dig 4294967296 L ∧ noz L ∧ lv 4294967296 L = lv 4294967296 A * lv 4294967296 C ∧ L.length ≤ A.length + C.length ∧ Chg [] w w' := by
  obtain ⟨i0, hi, hz0, hz1, hz2⟩ := info_parts Tryz.info32
  obtain ⟨na, HNA⟩ := name_it A.length
  obtain ⟨nc, HNC⟩ := name_it C.length
  obtain ⟨n, HN⟩ := name_it (na + nc)
  have hna : na ≤ 1099511627776 := by rw [← HNA.out]; exact la
  have hnc : nc ≤ 1099511627776 := by rw [← HNC.out]; exact lc
  have hn3 : n ≤ 2199023255552 := by have := HN.out; omega
  rw [HNA.out, HNC.out]
  clear la lc
  go_enter Tryz.func122, Tryz.ntmps122
  go_wp2_with (at_make; refine wpList_make_cap _ rfl (.tmp 13) (.tmp 13) 118 rfl 120 i0 .u32 Tryz.underlying118 hi hz0 hz1 .i64 .i64 _ _ n n rfl rfl (by have := HN.out; omega) (by have := HN.out; omega) (Nat.le_refl _) (by rw [hz2]; omega) (by omega) ?_)
  intro w1 hrow hch
  have hA1 := hA.keep hch (by simp)
  have hC1 := hC.keep hch (by simp)
  have hga : ga ≠ w.heap.size := by have := hA.lt; omega
  have hgb : gb ≠ w.heap.size := by have := hC.lt; omega
  obtain ⟨g, HG⟩ := name_it w.heap.size
  rw [HG.out] at hrow hga hgb ⊢
  clear hi hz0 hz1 hz2 hA hC
  go_wp2_with fail
  go_loopw [6] (fun iv wr => ∃ (i : Nat) (L : List Nat), i ≤ na ∧ iv = .int .i64 i ∧ Prod A C n i L ∧ Row 120 .u32 wr g n L ∧ Row 120 .u32 wr ga ca A ∧ Row 120 .u32 wr gb cb C ∧ Chg [] w wr)
    (fun iv _ => na - (intOf iv).toNat)
  case atStart => exact ⟨0, List.replicate n 0, Nat.zero_le _, rfl, Prod.start _ _ _, hrow, hA1, hC1, hch⟩
  case round =>
    obtain ⟨i, L, hile, rfl, hP, hr, hra, hrb, hchr⟩ := hrel
    clear hrow hch hA1 hC1
    obtain ⟨wo, rfl⟩ : ∃ wo : World, wo = wr := ⟨_, rfl⟩
    by_cases hlt : i < na
    · have hx := dig_getD (by omega) dA i
      obtain ⟨x, HX⟩ := name_it (A.getD i 0)
      rw [HX.out] at hx
      go_wp2_with fail
      go_loopw [7, 8] (fun cv jv wr => ∃ (j c : Nat) (L : List Nat), j ≤ nc ∧ jv = .int .i64 j ∧ cv = .int .u64 c ∧ ProdIn A C n i j c x L ∧ Row 120 .u32 wr g n L ∧ Row 120 .u32 wr ga ca A ∧ Row 120 .u32 wr gb cb C ∧ Chg [] w wr)
        (fun _ jv _ => nc - (intOf jv).toNat)
      case atStart => exact ⟨0, 0, L, Nat.zero_le _, rfl, rfl, hP.into x, hr, hra, hrb, hchr⟩
      case round =>
        clear hr hra hrb hchr
        obtain ⟨j, c, L, hjle, rfl, rfl, hP, hr, hra, hrb, hchr⟩ := hrel
        by_cases hjlt : j < nc
        · have hca := hra.cell i (by rw [HNA.out]; exact hlt)
          rw [HX.out] at hca
          have hcb := hrb.cell j (by rw [HNC.out]; exact hjlt)
          obtain ⟨y, HY⟩ := name_it (C.getD j 0)
          rw [HY.out] at hcb
          have hy : y < 4294967296 := by rw [← HY.out]; exact dig_getD (by omega) dC j
          have hij : i + j < n := by have := HN.out; omega
          have hcl := hr.cell (i + j) (by rw [hP.len]; exact hij)
          have hfr := hr.frozen (i + j)
          have hst := hP.step hx HY.out (by rw [HNC.out]; exact hjlt) (by rw [HNC.out, ← HN.out]; omega) dC
          obtain ⟨z, HZ⟩ := name_it (L.getD (i + j) 0)
          rw [HZ.out] at hcl hst
          have hz : z < 4294967296 := by rw [← HZ.out]; exact dig_getD (by omega) hP.digs _
          obtain ⟨p, HPP⟩ := name_it (x * y)
          have hp : p ≤ 18446744065119617025 := by rw [← HPP.out]; exact mul_bound hx hy
          have hpe : (x : Int) * (y : Int) = (p : Int) := by rw [← HPP.out]; simp
          rw [HPP.out, ← Nat.add_assoc] at hst
          have hb1 := hst.1
          have HST := Lib.hid hst.2
          have hcy := hP.carry
          clear hst hP
          have e1 : Hid (((c : Int) + (p : Int) + (z : Int)) / 4294967296 = (((c + p + z) / 4294967296 : Nat) : Int)) := by show _ = _; simp
          have e2 : Hid (((c : Int) + (p : Int) + (z : Int)) % 4294967296 = (((c + p + z) % 4294967296 : Nat) : Int)) := by show _ = _; simp
          have hij2 : (i : Int) + (j : Int) < (n : Int) := by omega
          have hcp : c + p ≤ 18446744073709551615 := by omega
          go_wp2_with fail
          go_region
          all_goals
            go_wp2_with fail
            go_roundw
            case rel =>
              rw [e1.out, e2.out]
              exact ⟨j + 1, _, _, by omega, by go_num, rfl, HST.out, (hr.store _ _).drew, (hra.other hga _).drew, (hrb.other hgb _).drew, (hchr.setCell (.inr (by rw [← HG.out]; exact Nat.le_refl _)) _).drew⟩
            case measure => simp [intOf]; omega
        · have hP' : Hid (ProdIn A C n i C.length c x L) := by
            have : j = C.length := by rw [HNC.out]; omega
            rw [← this]; exact hP
          have hin : i + nc < n := by have := HN.out; omega
          have hcl := hr.cell (i + nc) (by rw [hP.len]; exact hin)
          have hfr := hr.frozen (i + nc)
          obtain ⟨z, HZ⟩ := name_it (L.getD (i + nc) 0)
          rw [HZ.out] at hcl
          have hcy := hP.carry
          clear hP
          go_wp2_with fail
          go_roundw
          case rel =>
            have h1 := hP'.out.out HX.out (by rw [HNC.out]; exact hin)
            rw [HNC.out] at h1
            exact ⟨i + 1, _, by omega, by go_num, h1, hr.store _ _, hra.other hga _, hrb.other hgb _, hchr.setCell (.inr (by rw [← HG.out]; exact Nat.le_refl _)) _⟩
          case measure => simp [intOf]; omega
    · have hLL : Hid (L.length = n) := hP.len
      have hv : Hid (lv 4294967296 L = lv 4294967296 A * lv 4294967296 C) := by
        have := hP.value
        rwa [List.take_of_length_le (by rw [HNA.out]; omega)] at this
      have hd := hP.digs
      clear hP
      go_wp2_with fail
      rw [← hLL.out]
      rw [← hLL.out] at hr
      refine (strip_row g L.length L _ hr).mono ?_
      rintro e w3 ⟨rfl, rfl⟩
      have hrt : Row _ _ _ _ _ (trim L) := hr.take (tl L) (tl_le L)
      have hle := tl_le L
      go_wp2_with fail
      go_ret
      exact ⟨g, L.length, trim L, ret_eq (by rw [trim_length]; rfl), hrt, trim_dig hd, trim_noz L, by rw [lv_trim]; exact hv.out, by rw [trim_length]; have := hLL.out; have := HN.out; omega, hchr⟩

end Go.Proofs.YtogciehmdlfkfaaGreatDoor

/- Part R5. -/

namespace Go.Proofs.YtogciehmdlfkfaaGreatDoor
open Go.RowKit Nd

/-- U - V into a new row: i digits are done, c is borrowed. -/
structure MinI (U V : List Nat) (n i c : Nat) (L : List Nat) : Prop where
  len : L.length = n
  digs : dig 4294967296 L
  carry : c ≤ 1
  value : win 4294967296 L 0 i + lv 4294967296 (V.take i) = lv 4294967296 (U.take i) + 4294967296 ^ i * c
theorem MinI.start (U V : List Nat) (n : Nat) : MinI U V n 0 0 (List.replicate n 0) := ⟨by simp, dig_replicate (by omega) n, by omega, by simp [win]⟩
theorem MinI.step {U V L : List Nat} {n i c d b : Nat} (h : MinI U V n i c L) (hi : i < n) (hd : d < 4294967296) (hb : b ≤ 1) (he : d + V.getD i 0 + c = U.getD i 0 + 4294967296 * b) :
    MinI U V n (i + 1) b (L.set i d) := by
  refine ⟨by simpa using h.len, dig_set h.digs _ _ hd, hb, ?_⟩
  rw [win, Nat.zero_add, win_set_out _ _ _ _ _ _ (by omega), Nd.getD_set_eq (by rw [h.len]; exact hi), lv_take_step, lv_take_step]
  have := sub_step 4294967296 i _ c _ _ d b _ _ h.value he
  omega
theorem MinI.done {U V L : List Nat} {n c : Nat} (h : MinI U V n n c L) (hn : U.length = n) (dU : dig 4294967296 U) (nV : noz V) (hle : lv 4294967296 V ≤ lv 4294967296 U) :
    lv 4294967296 L = lv 4294967296 U - lv 4294967296 V := by
  have hVl : V.length ≤ n := by rw [← hn]; exact len_le_of_lv (B := 4294967296) (by omega) V U dU nV hle
  have h1 := h.value
  rw [List.take_of_length_le hVl, List.take_of_length_le (by omega)] at h1
  have h2 : win 4294967296 L 0 n = lv 4294967296 L := by rw [← h.len, win_all]
  have h3 := lv_lt (B := 4294967296) (by omega) L h.digs
  rw [h.len] at h3
  rw [h2] at h1
  have h4 : c = 0 := by
    apply Classical.byContradiction
    intro hc
    have : 4294967296 ^ n * 1 ≤ 4294967296 ^ n * c := Nat.mul_le_mul_left _ (by omega)
    omega
  rw [h4] at h1
  omega

end Go.Proofs.YtogciehmdlfkfaaGreatDoor
