/-
  Walks: word, wordGCD, GCD.
-/
import Derived.Test.YtjmonodjnljhdaaDoorW10
namespace Go.Proofs.YtjmonodjnljhdaaDoor
open Go.RowKit Nd

set_option maxRecDepth 20000 in
set_option maxHeartbeats 400000 in
theorem wordGCD_any (x y : Nat) (w : World) (hx : x ≤ 18446744073709551615) (hy : y ≤ 18446744073709551615) :
    Calls Tryd.prog 37 #[.int .u64 x, .int .u64 y] w fun e w' => e = .returned (.int .u64 (Nat.gcd x y : Nat)) ∧ Chg [] w w' := by
  obtain ⟨d, HD⟩ := name_it (Nat.gcd x y)
  rw [HD.out]
  go_enter Tryd.func37, Tryd.ntmps37
  go_wp2
  go_loopw [0, 1] (fun xv yv wr => ∃ a b : Nat, xv = .int .u64 a ∧ yv = .int .u64 b ∧ a ≤ 18446744073709551615 ∧ b ≤ 18446744073709551615 ∧ Nat.gcd a b = d ∧ Chg [] w wr) (fun _ yv _ => (intOf yv).toNat)
  case atStart => exact ⟨x, y, rfl, rfl, hx, hy, HD.out, Chg.refl _ _⟩
  case round =>
    obtain ⟨a, b, rfl, rfl, ha, hb, hg, hch⟩ := hrel
    have HG := Lib.hid hg
    clear hg
    by_cases h0 : 0 < b
    · have hmod : (a : Int) % (b : Int) = ((a % b : Nat) : Int) := by simp
      have hb1 : a % b < b := Nat.mod_lt _ h0
      have HM := Lib.hid hb1
      clear hb1
      go_wp2
      go_region
      all_goals
        go_wp2
        go_roundw
        case rel => exact ⟨b, a % b, rfl, by rw [hmod], hb, by have := HM.out; omega, by rw [Nat.gcd_comm, ← Nat.gcd_rec, Nat.gcd_comm]; exact HG.out, hch.drew⟩
        case measure =>
          have := HM.out
          simp only [intOf]
          rw [hmod]
          omega
    · have hb0 : b = 0 := by omega
      have HE : Hid (a = d) := by have := HG.out; rw [hb0, Nat.gcd_zero_right] at this; exact this
      clear hb0
      go_wp2
      go_ret
      exact ⟨ret_eq (by rw [← HE.out]; rfl), hch⟩

set_option maxRecDepth 20000 in
set_option maxHeartbeats 400000 in
theorem word_any (g cap : Nat) (xs : List Nat) (w : World) (hr : Row 77 .u32 w g cap xs) (hd : dig 4294967296 xs) (hl : xs.length ≤ 2) :
    Calls Tryd.prog 38 #[.slice (some ⟨g, 0, none⟩) xs.length cap] w fun e w' => e = .returned (.int .u64 (lv 4294967296 xs : Nat)) ∧ w = w' := by
  obtain ⟨n, HN⟩ := name_it xs.length
  rw [HN.out]
  rw [HN.out] at hl
  go_enter Tryd.func38, Tryd.ntmps38
  go_wp2
  go_loop [3, 8] (fun uv iv => ∃ k : Nat, k ≤ n ∧ iv = .int .i64 k ∧ uv = .int .u64 (lv 4294967296 (xs.take k) : Nat)) (fun _ iv => n - (intOf iv).toNat)
  case atStart => exact ⟨0, Nat.zero_le _, rfl, rfl⟩
  case round =>
    obtain ⟨k, hk, rfl, rfl⟩ := hrel
    by_cases hlt : k < n
    · have hcell := hr.cell k (by rw [HN.out]; exact hlt)
      have hx := dig_getD (by omega) hd k
      have hst := lv_take_step 4294967296 xs k
      have hlo := lv_lt (B := 4294967296) (by omega) _ (dig_take hd k)
      rw [List.length_take, HN.out, Nat.min_eq_left hk] at hlo
      obtain ⟨x, HX⟩ := name_it (xs.getD k 0)
      obtain ⟨u, HU⟩ := name_it (lv 4294967296 (xs.take k))
      rw [HX.out] at hcell hx hst
      rw [HU.out] at hlo hst
      rw [HU.out]
      have HST := Lib.hid hst
      clear hst
      rcases (show k = 0 ∨ k = 1 by omega) with rfl | rfl
      · have hor : bits BinOp.or IntKind.u64 (u : Int) (x : Int) = ((x + u : Nat) : Int) := by
          have := or_u64' x u 0 (by omega) (by omega) (by simpa using hlo)
          simpa using this
        go_wp2
        go_round
        case rel => exact ⟨1, by omega, rfl, by rw [HST.out]; simp; rw [Int.add_comm]⟩
        case measure => simp [intOf]; omega
      · have hlo' : u < 4294967296 := by simpa using hlo
        have hor : bits BinOp.or IntKind.u64 (u : Int) ((x : Int) * 4294967296) = ((x * 4294967296 + u : Nat) : Int) := by
          have := or_u64' x u 32 (by omega) (by omega) (by simpa using hlo')
          simpa using this
        go_wp2
        go_round
        case rel => exact ⟨2, by omega, rfl, by rw [HST.out]; simp; rw [Int.add_comm, Int.mul_comm]⟩
        case measure => simp [intOf]; omega
    · have HE : Hid (lv 4294967296 (xs.take k) = lv 4294967296 xs) := by rw [List.take_of_length_le (by rw [HN.out]; omega)]; rfl
      go_wp2
      go_ret
      exact ⟨ret_eq (by rw [← HE.out]; rfl), rfl⟩

set_option maxRecDepth 20000 in
set_option maxHeartbeats 1000000 in
theorem GCD_any (a b : ByteArray) (w : World) (ha : a.size ≤ 1099511627776) (hb : b.size ≤ 1099511627776) :
    Calls Tryd.prog 13 #[.string a, .string b] w fun e w' => ∃ s, e = .returned (.string s) ∧ Is s (Nat.gcd (val a) (val b)) ∧ Chg [] w w' := by
  obtain ⟨d, HD⟩ := name_it (Nat.gcd (val a) (val b))
  rw [HD.out]
  go_enter Tryd.func13, Tryd.ntmps13
  go_wp2_with fail
  refine (toLimbs_any a _ ha).mono ?_
  rintro e w1 ⟨gx, cx, X, rfl, hX, hgx, dX, nX, vX, lX, cX⟩
  go_wp2_with fail
  refine (toLimbs_any b _ hb).mono ?_
  rintro e w2 ⟨gy, cy, Y, rfl, hY, hgy, dY, nY, vY, lY, cY⟩
  have hX2 := hX.keep cY (by simp)
  have hne : gx ≠ gy := by have := hX.lt; omega
  have hfy : w.heap.size ≤ gy := Nat.le_trans cX.size hgy
  have hch : Chg [] w w2 := cX.then cY
  have HG : Hid (Nat.gcd (lv 4294967296 X) (lv 4294967296 Y) = d) := by rw [vX, vY]; exact HD.out
  clear hX cX cY vX vY hgy
  go_wp2_with fail
  go_loopg [5, 6] (lv 4294967296 Y) (fun k xv yv wr => ∃ (gx cx gy cy : Nat) (X Y : List Nat), xv = .slice (some ⟨gx, 0, none⟩) X.length cx ∧ yv = .slice (some ⟨gy, 0, none⟩) Y.length cy ∧
    Row 77 .u32 wr gx cx X ∧ Row 77 .u32 wr gy cy Y ∧ gx ≠ gy ∧ w.heap.size ≤ gx ∧ w.heap.size ≤ gy ∧ dig 4294967296 X ∧ dig 4294967296 Y ∧ noz X ∧ noz Y ∧ 
    X.length ≤ 1099511627775 ∧ Y.length ≤ 1099511627775 ∧ lv 4294967296 Y = k ∧ Nat.gcd (lv 4294967296 X) (lv 4294967296 Y) = d ∧ Chg [] w wr)
  case atStart => exact ⟨gx, cx, gy, cy, X, Y, rfl, rfl, hX2, hY, hne, hgx, hfy, dX, dY, nX, nY, by omega, by omega, rfl, HG.out, hch⟩
  case round =>
    clear hX2 hY hne hgx hfy dX dY nX nY HG hch lX lY
    obtain ⟨gx, cx, gy, cy, X, Y, rfl, rfl, hX, hY, hne, hgx, hgy, dX, dY, nX, nY, lX, lY, hk, hg, hch⟩ := hrel
    have HK := Lib.hid hk
    have HG := Lib.hid hg
    clear hk hg
    obtain ⟨nx, HNX⟩ := name_it X.length
    obtain ⟨ny, HNY⟩ := name_it Y.length
    rw [HNX.out, HNY.out]
    rw [HNX.out] at lX
    rw [HNY.out] at lY
    by_cases hy0 : ny = 0
    · have h0 : lv 4294967296 Y = 0 := (lv_nil_iff (B := 4294967296) (by omega) nY).1 (by rw [HNY.out]; exact hy0)
      have HE : Hid (lv 4294967296 X = d) := by have := HG.out; rw [h0, Nat.gcd_zero_right] at this; exact this
      clear h0
      subst hy0
      go_wp2_with fail
      rw [← HNX.out]
      refine (fromLimbs_row gx cx X wr hX dX (by rw [HNX.out]; omega)).mono ?_
      rintro e w3 ⟨s, rfl, hs, hc⟩
      rw [HE.out] at hs
      go_wp2_with fail
      go_ret
      exact ⟨s, rfl, hs, hch.then hc⟩
    · have hy1 : 0 < ny := by omega
      have hyb : ((ny : Int) == 0) = false := by rw [beq_eq_false_iff_ne]; omega
      have hY0 : Y ≠ [] := by rintro rfl; simp [Hid] at HNY; omega
      by_cases hbig : 2 < nx ∨ 2 < ny
      · have step : ∀ (w3 : World) (qv : Value) (Q R : List Nat) (g c : Nat), Row 77 .u32 w3 g c R → dig 4294967296 R → noz R → lv 4294967296 R = lv 4294967296 X % lv 4294967296 Y → (g = gx ∨ wr.heap.size ≤ g) → Row 77 .u32 w3 gy cy Y → Chg [gx] wr w3 →
            lv 4294967296 R < gk ∧ gy ≠ g ∧ w.heap.size ≤ g ∧ R.length ≤ 1099511627775 ∧ Nat.gcd (lv 4294967296 Y) (lv 4294967296 R) = d ∧ Chg [] w w3 := by
          intro w3 qv Q R g c hR dR nR vR hg hY3 hc3
          have hpos : 0 < lv 4294967296 Y := lv_pos (by omega) nY hY0
          have hlt : lv 4294967296 R < lv 4294967296 Y := by rw [vR]; exact Nat.mod_lt _ hpos
          refine ⟨by rw [← HK.out]; exact hlt, ?_, ?_, ?_, ?_, hch.fresh hc3 hgx⟩
          · rcases hg with h | h
            · rw [h]; exact Ne.symm hne
            · have := hY.lt; omega
          · rcases hg with h | h
            · rw [h]; exact hgx
            · exact Nat.le_trans hch.size h
          · have := len_le_of_lv (B := 4294967296) (by omega) R Y dY nR (by omega)
            rw [HNY.out] at this; omega
          · rw [vR, Nat.gcd_comm, ← Nat.gcd_rec, Nat.gcd_comm]; exact HG.out
        have STEP := Lib.hid step
        clear step
        by_cases h2 : 2 < nx
        all_goals
          have hs2 : 2 < nx ∨ 2 < ny := hbig
          clear hbig
          try (have h3 : 2 < ny := by omega)
          clear hs2
          go_wp2_with fail
          rw [← HNX.out, ← HNY.out]
          refine (divide_any gx cx gy cy X Y wr hX hY (Ne.symm hne) dX dY nY hY0 (by rw [HNX.out]; omega)).mono ?_
          rintro e w3 ⟨qv, rv, rfl, ⟨Q, R, g, c, hQ, rfl, hR, dQ, dR, nR, lQ, lR, vQ, vR, hg⟩, hY3, hc3⟩
          have S := Lib.hid (STEP.out w3 qv Q R g c hR dR nR vR hg hY3 hc3)
          clear vQ vR hX hY hc3 hch hQ dQ lQ lR hg
          rw [HNY.out]
          go_wp2_with fail
          go_roundg (lv 4294967296 R)
          case measure => exact S.out.1
          case rel => exact ⟨gy, cy, g, c, Y, R, by rw [HNY.out], rfl, hY3, hR, S.out.2.1, hgy, S.out.2.2.1, dY, dR, nY, nR, by rw [HNY.out]; omega, S.out.2.2.2.1, rfl, S.out.2.2.2.2.1, S.out.2.2.2.2.2⟩
      · have h2 : nx ≤ 2 := by omega
        have h3 : ny ≤ 2 := by omega
        clear hbig
        go_wp2_with fail
        rw [← HNX.out]
        refine (word_any gx cx X wr hX dX (by rw [HNX.out]; omega)).mono ?_
        rintro e w3 ⟨rfl, rfl⟩
        have bx : lv 4294967296 X ≤ 18446744073709551615 := by
          have h4 := lv_lt (B := 4294967296) (by omega) X dX
          have h5 : 4294967296 ^ X.length ≤ 4294967296 ^ 2 := Nat.pow_le_pow_right (by omega) (by rw [HNX.out]; exact h2)
          rw [show (4294967296 : Nat) ^ 2 = 18446744073709551616 from by decide] at h5
          omega
        have by' : lv 4294967296 Y ≤ 18446744073709551615 := by
          have h4 := lv_lt (B := 4294967296) (by omega) Y dY
          have h5 : 4294967296 ^ Y.length ≤ 4294967296 ^ 2 := Nat.pow_le_pow_right (by omega) (by rw [HNY.out]; exact h3)
          rw [show (4294967296 : Nat) ^ 2 = 18446744073709551616 from by decide] at h5
          omega
        obtain ⟨p, HP⟩ := name_it (lv 4294967296 X)
        obtain ⟨q, HQ⟩ := name_it (lv 4294967296 Y)
        have HGG := HG.out
        rw [HP.out, HQ.out] at HGG
        have HGD := Lib.hid HGG
        clear HGG
        rw [HP.out] at bx ⊢
        rw [HQ.out] at by'
        go_wp2_with fail
        rw [← HNY.out]
        refine (word_any gy cy Y wr hY dY (by rw [HNY.out]; omega)).mono ?_
        rintro e w3 ⟨rfl, rfl⟩
        rw [HQ.out]
        go_wp2_with fail
        refine (wordGCD_any p q wr bx by').mono ?_
        rintro e w4 ⟨rfl, hc4⟩
        have hle : Nat.gcd p q ≤ 18446744073709551615 := by
          by_cases hp : p = 0
          · rw [hp, Nat.gcd_zero_left]; exact by'
          · exact Nat.le_trans (Nat.le_of_dvd (by omega) (Nat.gcd_dvd_left p q)) bx
        rw [HGD.out] at hle ⊢
        have hch2 := hch.then hc4
        clear hc4 hX hY hch
        go_wp2_with fail
        refine (fromUint_any d w4 (by omega)).mono ?_
        rintro e w5 ⟨s, rfl, hs, hc5⟩
        go_wp2_with fail
        go_ret
        exact ⟨s, rfl, hs, hch2.then hc5⟩

end Go.Proofs.YtjmonodjnljhdaaDoor
