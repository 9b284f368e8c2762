/-
  Walks: product, Multiply.
-/
import Derived.Test.YtjmonodjnljhdaaGreatDoorW5
namespace Go.Proofs.YtjmonodjnljhdaaGreatDoor
open Go.RowKit Nd

set_option maxRecDepth 20000 in
set_option maxHeartbeats 1600000 in
theorem product_any (ga ca gb cb : Nat) (A C : List Nat) (w : World) (hA : Row 45 .u32 w ga ca A) (hC : Row 45 .u32 w gb cb C) (dA : dig 4294967296 A) (dC : dig 4294967296 C)
    (la : A.length ≤ 1099511627776) (lc : C.length ≤ 1099511627776) :
    Calls Tryz.prog 125 #[.slice (some ⟨ga, 0, none⟩) A.length ca, .slice (some ⟨gb, 0, none⟩) C.length cb] w fun e w' => ∃ g L, e = .returned (.slice (some ⟨g, 0, none⟩) L.length L.length) ∧
      Row 45 .u32 w' g L.length L ∧ w.heap.size ≤ g ∧ dig 4294967296 L ∧ lv 4294967296 L = lv 4294967296 A * lv 4294967296 C ∧ L.length = A.length + C.length ∧ Chg [] w w' := by
  obtain ⟨i0, hi, hz0, hz1, hz2⟩ := info_parts Tryz.info32
  obtain ⟨na, HNA⟩ := name_it A.length
  obtain ⟨nc, HNC⟩ := name_it C.length
  obtain ⟨n, HN⟩ := name_it (na + nc)
  have hna : na ≤ 1099511627776 := by rw [← HNA.out]; exact la
  have hnc : nc ≤ 1099511627776 := by rw [← HNC.out]; exact lc
  have hn3 : n ≤ 2199023255552 := by have := HN.out; omega
  rw [HNA.out, HNC.out]
  clear la lc
  go_enter Tryz.func125, Tryz.ntmps125
  go_wp2_with (at_make; refine wpList_make_cap _ rfl (.tmp 15) (.tmp 15) 69 rfl 45 i0 .u32 Tryz.underlying69 hi hz0 hz1 .i64 .i64 _ _ n n rfl rfl (by have := HN.out; omega) (by have := HN.out; omega) (Nat.le_refl _) (by rw [hz2]; omega) (by omega) ?_)
  intro w1 hrow hch
  have hA1 := hA.keep hch (by simp)
  have hC1 := hC.keep hch (by simp)
  have hga : ga ≠ w.heap.size := by have := hA.lt; omega
  have hgb : gb ≠ w.heap.size := by have := hC.lt; omega
  obtain ⟨g, HG⟩ := name_it w.heap.size
  rw [HG.out] at hrow hga hgb ⊢
  clear hi hz0 hz1 hz2 hA hC
  go_wp2_with fail
  go_loopw [19] (fun iv wr => ∃ (i : Nat) (L : List Nat), i ≤ na ∧ iv = .int .i64 i ∧ Prod A C n i L ∧ Row 45 .u32 wr g n L ∧ Row 45 .u32 wr ga ca A ∧ Row 45 .u32 wr gb cb C ∧ Chg [] w wr)
    (fun iv _ => na - (intOf iv).toNat)
  case atStart => exact ⟨0, List.replicate n 0, Nat.zero_le _, rfl, Prod.start _ _ _, hrow, hA1, hC1, hch⟩
  case round =>
    obtain ⟨i, L, hile, rfl, hP, hr, hra, hrb, hchr⟩ := hrel
    clear hrow hch hA1 hC1
    obtain ⟨wo, rfl⟩ : ∃ wo : World, wo = wr := ⟨_, rfl⟩
    by_cases hlt : i < na
    · have hca := hra.cell i (by rw [HNA.out]; exact hlt)
      have hx := dig_getD (by omega) dA i
      obtain ⟨x, HX⟩ := name_it (A.getD i 0)
      rw [HX.out] at hca hx
      go_wp2_with fail
      go_loopw [8, 26] (fun cv jv wr => ∃ (j c : Nat) (L : List Nat), j ≤ nc ∧ jv = .int .i64 j ∧ cv = .int .u64 c ∧ ProdIn A C n i j c x L ∧ Row 45 .u32 wr g n L ∧ Row 45 .u32 wr ga ca A ∧ Row 45 .u32 wr gb cb C ∧ Chg [] w wr)
        (fun _ jv _ => nc - (intOf jv).toNat)
      case atStart => exact ⟨0, 0, L, Nat.zero_le _, rfl, rfl, hP.into x, hr, hra, hrb, hchr⟩
      case round =>
        obtain ⟨j, c, L, hjle, rfl, rfl, hP, hr, hra, hrb, hchr⟩ := hrel
        clear hca
        by_cases hjlt : j < nc
        · have hcb := hrb.cell j (by rw [HNC.out]; exact hjlt)
          obtain ⟨y, HY⟩ := name_it (C.getD j 0)
          rw [HY.out] at hcb
          have hy : y < 4294967296 := by rw [← HY.out]; exact dig_getD (by omega) dC j
          have hij : i + j < n := by have := HN.out; omega
          have hcl := hr.cell (i + j) (by rw [hP.len]; exact hij)
          have hfr := hr.frozen (i + j)
          have hst := hP.step hx HY.out (by rw [HNC.out]; exact hjlt) (by rw [HNC.out, ← HN.out]; omega) dC
          obtain ⟨z, HZ⟩ := name_it (L.getD (i + j) 0)
          rw [HZ.out] at hcl hst
          have hz : z < 4294967296 := by rw [← HZ.out]; exact dig_getD (by omega) hP.digs _
          have hb1 := hst.1
          have HST := Lib.hid hst.2
          have hcy := hP.carry
          clear hst
          have hxy : (x : Int) * (y : Int) ≤ 18446744065119617025 := by
            have h : x * y ≤ 4294967295 * 4294967295 := Nat.mul_le_mul (by omega) (by omega)
            have h' : ((x * y : Nat) : Int) ≤ 18446744065119617025 := by omega
            rwa [Int.natCast_mul] at h'
          have hxy0 : (0 : Int) ≤ (x : Int) * (y : Int) := Int.mul_nonneg (by omega) (by omega)
          have e1 : Hid (((c : Int) + ((x : Int) * (y : Int) + (z : Int))) / 4294967296 = (((c + (x * y + z)) / 4294967296 : Nat) : Int)) := by show _ = _; simp
          have e2 : Hid (((c : Int) + ((x : Int) * (y : Int) + (z : Int))) % 4294967296 = (((c + (x * y + z)) % 4294967296 : Nat) : Int)) := by show _ = _; simp
          go_wp2
          go_roundw
          case rel =>
            rw [e1.out, e2.out]
            exact ⟨j + 1, _, _, by omega, by go_num, rfl, HST.out, hr.store _ _, hra.other hga _, hrb.other hgb _, hchr.setCell (.inr (by rw [← HG.out]; exact Nat.le_refl _)) _⟩
          case measure => simp [intOf]; omega
        · have hP' : Hid (ProdIn A C n i C.length c x L) := by
            have : j = C.length := by rw [HNC.out]; omega
            rw [← this]; exact hP
          have hin : i + nc < n := by have := HN.out; omega
          have hcl := hr.cell (i + nc) (by rw [hP.len]; exact hin)
          have hfr := hr.frozen (i + nc)
          obtain ⟨z, HZ⟩ := name_it (L.getD (i + nc) 0)
          rw [HZ.out] at hcl
          have hcy := hP.carry
          clear hP
          go_wp2
          go_roundw
          case rel =>
            have h1 := hP'.out.out HX.out (by rw [HNC.out]; exact hin)
            rw [HNC.out] at h1
            exact ⟨i + 1, _, by omega, by go_num, h1, hr.store _ _, hra.other hga _, hrb.other hgb _, hchr.setCell (.inr (by rw [← HG.out]; exact Nat.le_refl _)) _⟩
          case measure => simp [intOf]; omega
    · have hLL : Hid (L.length = n) := hP.len
      have hv : Hid (lv 4294967296 L = lv 4294967296 A * lv 4294967296 C) := by
        have := hP.value
        rwa [List.take_of_length_le (by rw [HNA.out]; omega)] at this
      have hd := hP.digs
      clear hP
      go_wp2
      go_ret
      exact ⟨g, L, ret_eq (by rw [hLL.out]; rfl), by rw [hLL.out]; exact hr, by rw [← HG.out]; exact Nat.le_refl _, hd, hv.out, by rw [hLL.out, ← HN.out], hchr⟩

set_option maxRecDepth 20000 in
set_option maxHeartbeats 400000 in
theorem multiply_any (a b : ByteArray) (w : World) (ha : a.size ≤ 1099511627776) (hb : b.size ≤ 1099511627776) :
    Calls Tryz.prog 93 #[.string a, .string b] w fun e w' => ∃ s, e = .returned (.string s) ∧ Is s (val a * val b) ∧ Chg [] w w' := by
  go_enter Tryz.func93, Tryz.ntmps93
  go_wp2_with fail
  refine (toLimbs_any a _ ha).mono ?_
  rintro e w1 ⟨ga, ca, A, rfl, hA, hga, dA, _, vA, lA, cA⟩
  have HA := Lib.hid vA; clear vA
  go_wp2_with fail
  refine (toLimbs_any b _ hb).mono ?_
  rintro e w2 ⟨gb, cb, C, rfl, hC, hgb, dC, _, vC, lC, cC⟩
  have HC := Lib.hid vC; clear vC
  go_wp2_with fail
  refine (product_any ga ca gb cb A C _ (hA.keep cC (by simp)) hC dA dC (by omega) (by omega)).mono ?_
  rintro e w3 ⟨g, L, rfl, hL, hg, dL, vL, lL, cL⟩
  have HL := Lib.hid vL; clear vL
  have HL2 := Lib.hid lL; clear lL
  go_wp2_with fail
  refine (fromLimbs_row g L.length L _ hL dL (by rw [HL2.out]; omega)).mono ?_
  rintro e w4 ⟨s, rfl, hs, c4⟩
  go_wp2_with fail
  go_ret
  refine ⟨s, rfl, ?_, ((cA.then cC).then cL).then c4⟩
  rw [HL.out, HA.out, HC.out] at hs
  exact hs

end Go.Proofs.YtjmonodjnljhdaaGreatDoor
