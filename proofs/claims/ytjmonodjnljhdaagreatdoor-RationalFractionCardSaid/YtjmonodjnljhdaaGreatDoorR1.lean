/-
  Walks of the reference: Normalize, Uint, limbs, strip, text.
-/
import Derived.Test.YtjmonodjnljhdaaGreatDoorW17
namespace Go.Proofs.YtjmonodjnljhdaaGreatDoor
open Go.RowKit Nd

set_option maxRecDepth 20000 in
set_option maxHeartbeats 400000 in
theorem rnormalize_any (s : ByteArray) (w : World) (hs : s.size ≤ 9223372036854775807) :
    Calls Tryz.prog 101 #[.string s] w fun e w' => e = .returned (.string (nrmB s)) ∧ w = w' := by
  go_enter Tryz.func101, Tryz.ntmps101
  go_wp2
  go_loop [3] (fun v => ∃ k : Nat, k ≤ s.size ∧ v = .int .i64 k ∧ (∀ j, j < k → s.data.toList[j]? = some 0)) (fun v => s.size - (intOf v).toNat)
  case atStart => exact ⟨0, Nat.zero_le _, rfl, fun j hj => absurd hj (by omega)⟩
  case round =>
    obtain ⟨k, hk, rfl, hz⟩ := hrel
    have HZ := Lib.hid hz; clear hz
    by_cases h0 : k < s.size
    · by_cases h1 : ((s[k].toNat : Int) == 0) = true
      · have H1 := Lib.hid h1
        go_wp2
        go_round
        case rel =>
          refine ⟨k + 1, by omega, by go_num, fun j hj => ?_⟩
          by_cases hj' : j = k
          · subst hj'
            rw [byte_get s j h0, byte_zero.1 H1.out]
          · exact HZ.out j (by omega)
        case measure => simp [intOf]; omega
      · have h2 : ((s[k].toNat : Int) == 0) = false := by simpa using h1
        have HE : Hid (s.extract k s.size = nrmB s) := nrmB_drop s k hk HZ.out (by rw [byte_get s k h0]; intro he; exact h1 (byte_zero.2 (Option.some.inj he)))
        clear h1
        go_wp2
        go_ret
        exact ⟨ret_eq (by rw [← HE.out]; rfl), rfl⟩
    · have HE : Hid (s.extract k s.size = nrmB s) := nrmB_drop s k hk HZ.out (by rw [byte_none s k (by omega)]; simp)
      go_wp2
      go_ret
      exact ⟨ret_eq (by rw [← HE.out]; rfl), rfl⟩
set_option maxRecDepth 20000 in
set_option maxHeartbeats 400000 in
theorem ruint_any (s : ByteArray) (w : World) (hs : s.size ≤ 9223372036854775807) (h : val s < 18446744073709551616) :
    Calls Tryz.prog 63 #[.string s] w fun e w' => e = .returned (.tuple #[.int .u64 (val s : Nat), .bool true]) ∧ w = w' := by
  obtain ⟨p, HP⟩ := name_it (nrmB s)
  have hp1 : p.size ≤ 8 := by
    rw [← HP.out]; exact Is_size (Is_nrmB s) 8 (by simpa using h)
  have hpv : Hid (val p = val s) := by rw [← HP.out]; exact val_nrmB s
  have HV := Lib.hid h; clear h
  go_enter Tryz.func63, Tryz.ntmps63
  go_wp2_with fail
  refine (rnormalize_any s _ (by omega)).mono ?_
  rintro e w' ⟨rfl, rfl⟩
  rw [HP.out]
  go_wp2_with fail
  go_loop [4, 5] (fun uv iv => ∃ k : Nat, k ≤ p.size ∧ iv = .int .i64 k ∧ uv = .int .u64 (bv (p.data.toList.take k) : Nat)) (fun _ iv => p.size - (intOf iv).toNat)
  case atStart => exact ⟨0, Nat.zero_le _, rfl, rfl⟩
  case round =>
    obtain ⟨k, hk, rfl, rfl⟩ := hrel
    obtain ⟨u, HU⟩ := name_it (bv (p.data.toList.take k))
    rw [HU.out]
    by_cases hlt : k < p.size
    · have hb := p[k].toNat_lt
      have hu : u < 72057594037927936 := by
        rw [← HU.out]
        have h1 := bv_lt (p.data.toList.take k)
        have h2 : (p.data.toList.take k).length ≤ 7 := by rw [List.length_take]; omega
        have h3 : 256 ^ (p.data.toList.take k).length ≤ 256 ^ 7 := Nat.pow_le_pow_right (by omega) h2
        have h5 := Nat.lt_of_lt_of_le h1 h3
        rwa [show (256 : Nat) ^ 7 = 72057594037927936 from by decide] at h5
      have hor : bits BinOp.or IntKind.u64 ((u : Int) * 256) (p[k].toNat : Int) = ((u * 256 + p[k].toNat : Nat) : Int) := by
        have := or_u64 u p[k].toNat 8 (by omega) (by omega) (by omega)
        simpa using this
      have HE : Hid (u * 256 + p[k].toNat = bv (p.data.toList.take (k + 1))) := by
        have h1 : p.data.toList.take (k + 1) = p.data.toList.take k ++ [p[k]] := by
          rw [List.take_succ_eq_append_getElem (by simpa using hlt)]; rfl
        rw [h1, bv_snoc, HU.out]
        show u * 256 + p[k].toNat = p[k].toNat + 256 * u
        omega
      go_wp2
      go_round
      case rel => exact ⟨k + 1, by omega, by go_num, by rw [← HE.out]; rfl⟩
      case measure => simp [intOf]; omega
    · have HE : Hid (u = val s) := by
        rw [← hpv.out, ← HU.out, val, List.take_of_length_le (by simp; omega)]
        rfl
      go_wp2
      go_ret2
      exact ⟨by rw [← HE.out]; rfl, rfl⟩

set_option maxRecDepth 20000 in
set_option maxHeartbeats 400000 in
theorem ruint_great (s : ByteArray) (w : World) (hs : s.size ≤ 9223372036854775807) (h : 18446744073709551616 ≤ val s) :
    Calls Tryz.prog 63 #[.string s] w fun e w' => e = .returned (.tuple #[.int .u64 0, .bool false]) ∧ w = w' := by
  obtain ⟨p, HP⟩ := name_it (nrmB s)
  have hp2 : p.size ≤ 9223372036854775807 := by rw [← HP.out]; exact Nat.le_trans (nrmB_size s) hs
  have hp1 : 8 < p.size := by
    apply Classical.byContradiction
    intro hc
    have h1 := val_lt p
    have h2 : 256 ^ p.size ≤ 256 ^ 8 := Nat.pow_le_pow_right (by omega) (by omega)
    rw [← HP.out, val_nrmB] at h1
    rw [← HP.out] at h2
    simp at h2
    omega
  clear h
  go_enter Tryz.func63, Tryz.ntmps63
  go_wp2_with fail
  refine (rnormalize_any s _ (by omega)).mono ?_
  rintro e w' ⟨rfl, rfl⟩
  rw [HP.out]
  go_wp2_with fail
  go_ret2
  exact ⟨rfl, rfl⟩
set_option maxRecDepth 20000 in
set_option maxHeartbeats 1000000 in
theorem limbs_any (s : ByteArray) (w : World) (hs : s.size ≤ 1099511627776) :
    Calls Tryz.prog 81 #[.string s] w fun e w' => ∃ g cap xs, e = .returned (.slice (some ⟨g, 0, none⟩) xs.length cap) ∧ Row 45 .u32 w' g cap xs ∧ w.heap.size ≤ g ∧
      dig 4294967296 xs ∧ noz xs ∧ lv 4294967296 xs = val s ∧ 4 * xs.length ≤ s.size + 3 ∧ Chg [] w w' := by
  obtain ⟨p, HP⟩ := name_it (nrmB s)
  have hp1 : p.size ≤ 1099511627776 := by rw [← HP.out]; exact Nat.le_trans (nrmB_size s) hs
  obtain ⟨n, HN⟩ := name_it ((p.size + 3) / 4)
  have hn3 : n ≤ 1099511627776 := by have := HN.out; omega
  obtain ⟨i0, hi, hz0, hz1, hz2⟩ := info_parts Tryz.info32
  go_enter Tryz.func81, Tryz.ntmps81
  go_wp2_with fail
  refine (rnormalize_any s _ (by omega)).mono ?_
  rintro e w' ⟨rfl, rfl⟩
  rw [HP.out]
  go_wp2_with (at_make; refine wpList_make_cap _ rfl (.tmp 10) (.tmp 10) 69 rfl 45 i0 .u32 Tryz.underlying69 hi hz0 hz1 .i64 .i64 _ _ n n rfl rfl (by have := HN.out; omega) (by have := HN.out; omega) (Nat.le_refl _) (by rw [hz2]; omega) (by omega) ?_)
  intro w1 hrow hch
  obtain ⟨g, HG⟩ := name_it w.heap.size
  rw [HG.out] at hrow ⊢
  clear hi hz0 hz1 hz2
  have hpn : Hid (nolead p.data.toList) := by rw [← HP.out]; exact (Is_nrmB s).2
  have hpv : Hid (val p = val s) := by rw [← HP.out]; exact val_nrmB s
  go_wp2_with fail
  go_loopw [4] (fun iv wr => ∃ (k : Nat) (L : List Nat), k ≤ p.size ∧ iv = .int .i64 k ∧ Pack (R p) n k L ∧ Row 45 .u32 wr g n L ∧ Chg [] w wr)
    (fun iv _ => p.size - (intOf iv).toNat)
  case atStart => exact ⟨0, List.replicate n 0, Nat.zero_le _, rfl, Pack.start _ _, hrow, hch⟩
  case round =>
    obtain ⟨k, L, hk, rfl, hP, hr, hchr⟩ := hrel
    clear hrow hch
    by_cases hlt : k < p.size
    · have hq1 : k / 4 < L.length := by have := HN.out; rw [hP.len]; omega
      have hq2 : k / 4 < n := by have := HN.out; omega
      have hcy := hr.cell (k / 4) hq1
      have hfr : wr.frozen? ⟨g, k / 4, none⟩ = false := hr.frozen _
      have hg := R_get p k (p.size - 1 - k) (by omega)
      have HGT := Lib.hid hg; clear hg
      have hb := p[p.size - 1 - k].toNat_lt
      have hst := hP.step (b := p[p.size - 1 - k].toNat) hb (by have := HN.out; omega) HGT.out.symm
      obtain ⟨x, HX⟩ := name_it (L.getD (k / 4) 0)
      rw [HX.out] at hcy hst
      have HST := Lib.hid hst; clear hst
      have hix : ∀ W : World, (Instr.index 9 (.string p) (.int .i64 ((p.size : Int) - 1 - (k : Int)))).run Tryz.prog W = .ok (.int .u8 ((p[p.size - 1 - k].toNat : Nat) : Int)) W := by
        intro W
        rw [run_index_string W 9 p .i64 _ Tryz.underlying9, dif_pos (by omega)]
        have : ((p.size : Int) - 1 - (k : Int)).toNat = p.size - 1 - k := by omega
        simp only [this]
      obtain ⟨c, HC⟩ := name_it p[p.size - 1 - k].toNat
      rw [HC.out] at hb
      simp only [HC.out] at hix
      obtain ⟨r, HR⟩ := name_it (k % 4)
      have hr4 : r < 4 := by rw [← HR.out]; omega
      have e1 : Hid (bits BinOp.or IntKind.u32 (x : Int) ((c : Int) * 2 ^ (8 * (k % 4)) % 4294967296) = ((x + c * 256 ^ (k % 4) : Nat) : Int)) := by
        rw [HR.out]
        have h1 : (256 : Nat) ^ r = 2 ^ (8 * r) := by rw [show (256 : Nat) = 2 ^ 8 from rfl, ← Nat.pow_mul]
        have hx := HST.out.1
        rw [HR.out, h1] at hx
        have h2 : (2 : Nat) ^ (8 * r) ≤ 2 ^ 24 := Nat.pow_le_pow_right (by omega) (by omega)
        have h3 : c * 2 ^ (8 * r) ≤ 255 * 2 ^ (8 * r) := Nat.mul_le_mul_right _ (by omega)
        have h5 : c * 2 ^ (8 * r) < 2 ^ 32 := by omega
        have h4 := or_u32' c x (8 * r) (by omega) h5 hx
        have h6 : ((c : Int) * 2 ^ (8 * r) % 4294967296) = ((c * 2 ^ (8 * r) : Nat) : Int) := by
          have h7 : ((c : Int) * 2 ^ (8 * r)) = ((c * 2 ^ (8 * r) : Nat) : Int) := by simp
          rw [h7]
          have h8 : ((c * 2 ^ (8 * r) : Nat) : Int) < 4294967296 := by omega
          omega
        show _ = _
        rw [h6, h4, h1, Nat.add_comm]
      go_wp2
      go_region
      all_goals
        go_wp2
        go_roundw
        case rel =>
          rw [e1.out]
          have h2 := HST.out.2
          rw [HC.out] at h2
          exact ⟨k + 1, _, by omega, by go_num, h2, (hr.store _ _).drew, (hchr.setCell (.inr (by rw [← HG.out]; exact Nat.le_refl _)) _).drew⟩
        case measure => simp [intOf]; omega
    · have hkp : k = p.size := by omega
      have hll : (R p).length = p.size := R_length p
      have HL : Hid (L.length = n) := hP.len
      have HP2 : Hid (noz L ∧ lv 4294967296 L = val s) := by
        refine ⟨?_, ?_⟩
        · refine Pack.noz (bs := R p) (n := n) ?_ ?_ ?_
          · rw [hll, ← hkp]; exact hP
          · rw [hll, ← HN.out]
          · intro hne
            rw [hll]
            have := bv_ge p.data.toList hpn.out (by intro h; apply hne; simp [R, rb, h])
            simpa [R, lv_rb] using this
        · rw [hP.value, lv_take_all _ _ _ (by omega), lv_R, hpv.out]
      have hdig := hP.digs
      clear hkp hll
      go_wp2
      go_ret
      refine ⟨g, n, L, ret_eq (by rw [HL.out]; rfl), hr, by rw [← HG.out]; exact Nat.le_refl _, hdig, HP2.out.1, HP2.out.2, ?_, hchr⟩
      have h1 := HN.out
      have h2 := nrmB_size s
      rw [HP.out] at h2
      rw [HL.out]
      omega


set_option maxRecDepth 20000 in
set_option maxHeartbeats 400000 in
theorem strip_row (g cap : Nat) (xs : List Nat) (w : World) (hr : Row 45 .u32 w g cap xs) :
    Calls Tryz.prog 113 #[.slice (some ⟨g, 0, none⟩) xs.length cap] w fun e w' => e = .returned (.slice (some ⟨g, 0, none⟩) (tl xs) cap) ∧ w = w' := by
  have hf := hr.fits
  obtain ⟨m, HM⟩ := name_it xs.length
  rw [HM.out] at hf ⊢
  obtain ⟨hf1, hf2⟩ := hf
  go_enter Tryz.func113, Tryz.ntmps113
  go_wp2_with fail
  go_loop [3] (fun v => ∃ k : Nat, k ≤ m ∧ v = .int .i64 k ∧ (∀ j, k ≤ j → xs.getD j 0 = 0)) (fun v => (intOf v).toNat)
  case atStart => exact ⟨m, Nat.le_refl _, rfl, fun j hj => getD_ge _ _ (by rw [HM.out]; exact hj)⟩
  case round =>
    obtain ⟨k, hk, rfl, hz⟩ := hrel
    have HZ := Lib.hid hz; clear hz
    by_cases h0 : 0 < k
    · have hcell := hr.cell (k - 1) (by rw [HM.out]; omega)
      obtain ⟨x, HX⟩ := name_it (xs.getD (k - 1) 0)
      rw [HX.out] at hcell
      by_cases hv : x = 0
      · subst hv
        go_wp2_with fail
        go_round
        case rel =>
          refine ⟨k - 1, by omega, by congr 1; omega, fun j hj => ?_⟩
          by_cases hj' : j = k - 1
          · rw [hj']; exact HX.out
          · exact HZ.out j (by omega)
        case measure => simp [intOf]; omega
      · have hb : ((x : Int) == 0) = false := by rw [beq_eq_false_iff_ne]; omega
        have he : Hid (tl xs = k) := tl_of xs k HZ.out (fun _ => by rw [HX.out]; exact hv)
        go_wp2_with fail
        go_ret
        exact ⟨ret_eq (by rw [he.out]; rfl), rfl⟩
    · have he : Hid (tl xs = k) := tl_of xs k HZ.out (fun h => absurd h h0)
      go_wp2_with fail
      go_ret
      exact ⟨ret_eq (by rw [he.out]; rfl), rfl⟩

set_option maxRecDepth 20000 in
theorem strip_nil (w : World) :
    Calls Tryz.prog 113 #[.slice none 0 0] w fun e w' => e = .returned (.slice none 0 0) ∧ w = w' := by
  go_enter Tryz.func113, Tryz.ntmps113
  go_wp2_with fail
  go_loop [3] (fun v => v = .int .i64 0) (fun _ => 0)
  case atStart => rfl
  case round =>
    obtain rfl := hrel
    go_wp2_with fail
    go_ret
    exact ⟨rfl, rfl⟩

end Go.Proofs.YtjmonodjnljhdaaGreatDoor
