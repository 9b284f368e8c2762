/-
  Walks of the reference: minus, NatSubtract, plus, NatAdd.
-/
import Derived.Test.YtjmonodjnljhdaaGreatDoorR3
namespace Go.Proofs.YtjmonodjnljhdaaGreatDoor
open Go.RowKit Nd

/-- U - V into a new row: i digits are done, c is borrowed. -/
structure MinI (U V : List Nat) (n i c : Nat) (L : List Nat) : Prop where
  len : L.length = n
  digs : dig 4294967296 L
  carry : c ≤ 1
  value : win 4294967296 L 0 i + lv 4294967296 (V.take i) = lv 4294967296 (U.take i) + 4294967296 ^ i * c
theorem MinI.start (U V : List Nat) (n : Nat) : MinI U V n 0 0 (List.replicate n 0) := ⟨by simp, dig_replicate (by omega) n, by omega, by simp [win]⟩
theorem MinI.step {U V L : List Nat} {n i c d b : Nat} (h : MinI U V n i c L) (hi : i < n) (hd : d < 4294967296) (hb : b ≤ 1) (he : d + V.getD i 0 + c = U.getD i 0 + 4294967296 * b) :
    MinI U V n (i + 1) b (L.set i d) := by
  refine ⟨by simpa using h.len, dig_set h.digs _ _ hd, hb, ?_⟩
  rw [win, Nat.zero_add, win_set_out _ _ _ _ _ _ (by omega), Nd.getD_set_eq (by rw [h.len]; exact hi), lv_take_step, lv_take_step]
  have := sub_step 4294967296 i _ c _ _ d b _ _ h.value he
  omega
theorem MinI.done {U V L : List Nat} {n c : Nat} (h : MinI U V n n c L) (hn : U.length = n) (dU : dig 4294967296 U) (nV : noz V) (hle : lv 4294967296 V ≤ lv 4294967296 U) :
    lv 4294967296 L = lv 4294967296 U - lv 4294967296 V := by
  have hVl : V.length ≤ n := by rw [← hn]; exact len_le_of_lv (B := 4294967296) (by omega) V U dU nV hle
  have h1 := h.value
  rw [List.take_of_length_le hVl, List.take_of_length_le (by omega)] at h1
  have h2 : win 4294967296 L 0 n = lv 4294967296 L := by rw [← h.len, win_all]
  have h3 := lv_lt (B := 4294967296) (by omega) L h.digs
  rw [h.len] at h3
  rw [h2] at h1
  have h4 : c = 0 := by
    apply Classical.byContradiction
    intro hc
    have : 4294967296 ^ n * 1 ≤ 4294967296 ^ n * c := Nat.mul_le_mul_left _ (by omega)
    omega
  rw [h4] at h1
  omega

set_option maxRecDepth 20000 in
set_option maxHeartbeats 1600000 in
theorem minus_any (ga ca gb cb : Nat) (U V : List Nat) (w : World) (hA : Row 45 .u32 w ga ca U) (hC : Row 45 .u32 w gb cb V) (dU : dig 4294967296 U) (dV : dig 4294967296 V) (nV : noz V)
    (la : U.length ≤ 1099511627776) (hle : lv 4294967296 V ≤ lv 4294967296 U) :
    Calls Tryz.prog 107 #[.slice (some ⟨ga, 0, none⟩) U.length ca, .slice (some ⟨gb, 0, none⟩) V.length cb] w fun e w' => ∃ g c L, e = .returned (.slice (some ⟨g, 0, none⟩) L.length c) ∧
      Row 45 .u32 w' g c L ∧ dig 4294967296 L ∧ noz L ∧ lv 4294967296 L = lv 4294967296 U - lv 4294967296 V ∧ L.length ≤ U.length ∧ Chg [] w w' := by
  obtain ⟨i0, hi, hz0, hz1, hz2⟩ := info_parts Tryz.info32
  have hfb := hC.fits
  obtain ⟨n, HN⟩ := name_it U.length
  obtain ⟨m, HM⟩ := name_it V.length
  have HLE := Lib.hid hle
  clear hle
  rw [HN.out, HM.out]
  rw [HN.out] at la
  rw [HM.out] at hfb
  obtain ⟨hfb1, hfb2⟩ := hfb
  go_enter Tryz.func107, Tryz.ntmps107
  go_wp2_with (at_make; refine wpList_make_cap _ rfl (.tmp 11) (.tmp 11) 69 rfl 45 i0 .u32 Tryz.underlying69 hi hz0 hz1 .i64 .i64 _ _ n n rfl rfl rfl rfl (Nat.le_refl _) (by rw [hz2]; omega) (by omega) ?_)
  intro w1 hrow hch
  have hA1 := hA.keep hch (by simp)
  have hC1 := hC.keep hch (by simp)
  have hga : ga ≠ w.heap.size := by have := hA.lt; omega
  have hgb : gb ≠ w.heap.size := by have := hC.lt; omega
  obtain ⟨g, HG⟩ := name_it w.heap.size
  rw [HG.out] at hrow hga hgb ⊢
  clear hi hz0 hz1 hz2 hA hC
  go_wp2_with fail
  go_loopw [6, 7] (fun cv iv wr => ∃ (i c : Nat) (L : List Nat), i ≤ n ∧ iv = .int .i64 i ∧ cv = .int .u64 c ∧ MinI U V n i c L ∧ Row 45 .u32 wr g n L ∧ Row 45 .u32 wr ga ca U ∧ Row 45 .u32 wr gb cb V ∧ Chg [] w wr)
    (fun _ iv _ => n - (intOf iv).toNat)
  case atStart => exact ⟨0, 0, List.replicate n 0, Nat.zero_le _, rfl, rfl, MinI.start _ _ _, hrow, hA1, hC1, hch⟩
  case round =>
    obtain ⟨i, c, L, hile, rfl, rfl, hP, hr, hra, hrb, hchr⟩ := hrel
    clear hrow hch hA1 hC1
    by_cases hlt : i < n
    · have hca := hra.cell i (by rw [HN.out]; exact hlt)
      obtain ⟨x, HX⟩ := name_it (U.getD i 0)
      rw [HX.out] at hca
      have hx : x < 4294967296 := by rw [← HX.out]; exact dig_getD (by omega) dU i
      obtain ⟨y, HY⟩ := name_it (V.getD i 0)
      have hy : y < 4294967296 := by rw [← HY.out]; exact dig_getD (by omega) dV i
      have hcl := hr.cell i (by rw [hP.len]; exact hlt)
      have hfr := hr.frozen i
      obtain ⟨old, HO⟩ := name_it (L.getD i 0)
      rw [HO.out] at hcl
      have hc := hP.carry
      have stA : x < c + y → MinI U V n (i + 1) 1 (L.set i (x + 4294967296 - (c + y))) := fun h => hP.step hlt (by omega) (by omega) (by rw [HX.out, HY.out]; omega)
      have stB : ¬ x < c + y → MinI U V n (i + 1) 0 (L.set i (x - (c + y))) := fun h => hP.step hlt (by omega) (by omega) (by rw [HX.out, HY.out]; omega)
      have SA := Lib.hid stA
      have SB := Lib.hid stB
      clear stA stB hP
      by_cases hmi : i < m
      · have hcb := hrb.cell i (by rw [HM.out]; exact hmi)
        rw [HY.out] at hcb
        by_cases hlt2 : x < c + y
        · have h2 : (x : Int) < (c : Int) + (y : Int) := by omega
          have e1 : Hid ((x : Int) + 4294967296 - ((c : Int) + (y : Int)) = ((x + 4294967296 - (c + y) : Nat) : Int)) := by show _ = _; omega
          go_wp2_with fail
          go_roundw
          case rel =>
            rw [e1.out]
            exact ⟨i + 1, 1, _, by omega, by go_num, rfl, SA.out hlt2, hr.store _ _, hra.other hga _, hrb.other hgb _, hchr.setCell (.inr (by rw [← HG.out]; exact Nat.le_refl _)) _⟩
          case measure => simp [intOf]; omega
        · have h2 : ¬ (x : Int) < (c : Int) + (y : Int) := by omega
          have e1 : Hid ((x : Int) - ((c : Int) + (y : Int)) = ((x - (c + y) : Nat) : Int)) := by show _ = _; omega
          go_wp2_with fail
          go_roundw
          case rel =>
            rw [e1.out]
            exact ⟨i + 1, 0, _, by omega, by go_num, rfl, SB.out hlt2, hr.store _ _, hra.other hga _, hrb.other hgb _, hchr.setCell (.inr (by rw [← HG.out]; exact Nat.le_refl _)) _⟩
          case measure => simp [intOf]; omega
      · have hy0 : y = 0 := by rw [← HY.out]; exact getD_ge _ _ (by rw [HM.out]; omega)
        subst hy0
        by_cases hlt2 : x < c + 0
        · have h2 : (x : Int) < (c : Int) := by omega
          have e1 : Hid ((x : Int) + 4294967296 - (c : Int) = ((x + 4294967296 - (c + 0) : Nat) : Int)) := by show _ = _; omega
          have S1 := Lib.hid (SA.out hlt2)
          clear hlt2
          go_wp2_with fail
          go_roundw
          case rel =>
            rw [e1.out]
            exact ⟨i + 1, 1, _, by omega, by go_num, rfl, S1.out, hr.store _ _, hra.other hga _, hrb.other hgb _, hchr.setCell (.inr (by rw [← HG.out]; exact Nat.le_refl _)) _⟩
          case measure => simp [intOf]; omega
        · have h2 : ¬ (x : Int) < (c : Int) := by omega
          have e1 : Hid ((x : Int) - (c : Int) = ((x - (c + 0) : Nat) : Int)) := by show _ = _; omega
          have S1 := Lib.hid (SB.out hlt2)
          clear hlt2
          go_wp2_with fail
          go_roundw
          case rel =>
            rw [e1.out]
            exact ⟨i + 1, 0, _, by omega, by go_num, rfl, S1.out, hr.store _ _, hra.other hga _, hrb.other hgb _, hchr.setCell (.inr (by rw [← HG.out]; exact Nat.le_refl _)) _⟩
          case measure => simp [intOf]; omega
    · have hin : i = n := by omega
      have hD : Hid (lv 4294967296 L = lv 4294967296 U - lv 4294967296 V) := by rw [hin] at hP; exact hP.done HN.out dU nV HLE.out
      have hll : Hid (L.length = n) := hP.len
      have dL := hP.digs
      clear hin hP
      go_wp2_with fail
      rw [← hll.out]
      rw [← hll.out] at hr
      refine (strip_row g L.length L _ hr).mono ?_
      rintro e w3 ⟨rfl, rfl⟩
      have hrt : Row _ _ _ _ _ (trim L) := hr.take (tl L) (tl_le L)
      have hle2 := tl_le L
      go_wp2_with fail
      go_ret
      exact ⟨g, L.length, trim L, ret_eq (by rw [trim_length]; rfl), hrt, trim_dig dL, trim_noz L, by rw [lv_trim]; exact hD.out, by rw [trim_length]; have := hll.out; have := HN.out; omega, hchr⟩

end Go.Proofs.YtjmonodjnljhdaaGreatDoor
