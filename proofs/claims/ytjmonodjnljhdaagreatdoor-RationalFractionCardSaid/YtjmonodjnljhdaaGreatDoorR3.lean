/-
  Walks of the reference: FromUint, order, NatCompare, minus, NatSubtract, times, NatMultiply.
-/
import Derived.Test.YtjmonodjnljhdaaGreatDoorR2
namespace Go.Proofs.YtjmonodjnljhdaaGreatDoor
open Go.RowKit Nd

set_option maxRecDepth 20000 in
theorem rfromUint_any (u : Nat) (w : World) (hu : u < 18446744073709551616) :
    Calls Tryz.prog 49 #[.int .u64 u] w fun e w' => ∃ s, e = .returned (.string s) ∧ Is s u ∧ Chg [] w w' := by
  go_enter Tryz.func49, Tryz.ntmps49
  go_wp2_with fail
  have hrow : Row 45 .u32 (w.alloc (Obj.cells #[Value.int IntKind.u32 (↑u % 4294967296), Value.int IntKind.u32 (↑u / 4294967296)] 45)) w.heap.size 2 [u % 4294967296, u / 4294967296] :=
    Row.of_alloc w _ [u % 4294967296, u / 4294967296] (by simp [vals]) (by simp)
  have hd : dig 4294967296 [u % 4294967296, u / 4294967296] := dig_cons (by omega) (dig_cons (by omega) (dig_nil _))
  refine (text_row w.heap.size 2 _ _ hrow hd (by simp)).mono ?_
  rintro e w1 ⟨s, rfl, hs, hc⟩
  have hch : Chg [] w w1 := ((Chg.refl [] w).alloc _).then hc
  clear hc hrow hd
  have HS : Hid (Is s u) := by
    have : lv 4294967296 [u % 4294967296, u / 4294967296] = u := by simp; omega
    rwa [this] at hs
  clear hs
  go_wp2_with fail
  go_ret
  exact ⟨_, rfl, HS.out, hch⟩


theorem lv_lt_of_len {B : Nat} {X Y : List Nat} (hB : 1 < B) (dX : dig B X) (nY : noz Y) (h : X.length < Y.length) : lv B X < lv B Y := lv_small hB dX nY h

/-- The digits from k on agree. -/
theorem ord_top {X Y : List Nat} {k n : Nat} (hX : X.length = n) (hY : Y.length = n) (dX : dig 4294967296 X) (_dY : dig 4294967296 Y) (h : X.drop (k + 1) = Y.drop (k + 1)) (hk : k < n) (hlt : X.getD k 0 < Y.getD k 0) : lv 4294967296 X < lv 4294967296 Y := by
  rw [lv_take_drop _ X (k + 1) (by omega), lv_take_drop _ Y (k + 1) (by omega), h, lv_take_step, lv_take_step]
  have h1 := lv_lt (B := 4294967296) (by omega) _ (dig_take dX k)
  rw [List.length_take, Nat.min_eq_left (by omega)] at h1
  have h2 : 4294967296 ^ k * (X.getD k 0 + 1) ≤ 4294967296 ^ k * Y.getD k 0 := Nat.mul_le_mul_left _ hlt
  rw [Nat.mul_add] at h2
  omega

set_option maxRecDepth 20000 in
set_option maxHeartbeats 1000000 in
theorem order_any (gx cx gy cy : Nat) (X Y : List Nat) (w : World) (hX : Row 45 .u32 w gx cx X) (hY : Row 45 .u32 w gy cy Y) (dX : dig 4294967296 X) (dY : dig 4294967296 Y) (nX : noz X) (nY : noz Y) :
    Calls Tryz.prog 106 #[.slice (some ⟨gx, 0, none⟩) X.length cx, .slice (some ⟨gy, 0, none⟩) Y.length cy] w fun e w' => e = .returned (.int .i64 (ord (lv 4294967296 X) (lv 4294967296 Y))) ∧ Chg [] w w' := by
  have hfx := hX.fits
  have hfy := hY.fits
  obtain ⟨r, HR⟩ := name_it (ord (lv 4294967296 X) (lv 4294967296 Y))
  obtain ⟨nx, HNX⟩ := name_it X.length
  obtain ⟨ny, HNY⟩ := name_it Y.length
  rw [HR.out, HNX.out, HNY.out]
  rw [HNX.out] at hfx
  rw [HNY.out] at hfy
  obtain ⟨hf1, hf2⟩ := hfx
  obtain ⟨hf3, hf4⟩ := hfy
  rcases Nat.lt_trichotomy nx ny with h | h | h
  · have hr : Hid (r = -1) := by rw [← HR.out]; exact ord_lt (lv_lt_of_len (by omega) dX nY (by rw [HNX.out, HNY.out]; exact h))
    go_enter Tryz.func106, Tryz.ntmps106
    go_wp2_with fail
    go_ret
    exact ⟨ret_eq (by rw [hr.out]; rfl), Chg.refl _ _⟩
  · subst h
    go_enter Tryz.func106, Tryz.ntmps106
    go_wp2_with fail
    go_loopw [5] (fun iv wr => ∃ t : Nat, t ≤ nx ∧ iv = .int .i64 ((t : Int) - 1) ∧ X.drop t = Y.drop t ∧ Row 45 .u32 wr gx cx X ∧ Row 45 .u32 wr gy cy Y ∧ Chg [] w wr) (fun iv _ => (intOf iv + 1).toNat)
    case atStart => exact ⟨nx, Nat.le_refl _, rfl, by rw [List.drop_eq_nil_of_le (by rw [HNX.out]; exact Nat.le_refl _), List.drop_eq_nil_of_le (by rw [HNY.out]; exact Nat.le_refl _)], hX, hY, Chg.refl _ _⟩
    case round =>
      obtain ⟨t, ht, rfl, hdr, hx, hy, hch⟩ := hrel
      have HD := Lib.hid hdr
      clear hX hY hdr
      by_cases ht0 : 1 ≤ t
      · obtain ⟨i, rfl⟩ : ∃ i, t = i + 1 := ⟨t - 1, by omega⟩
        have hii : ((i + 1 : Nat) : Int) - 1 = (i : Int) := by omega
        rw [hii]
        clear hii ht0
        have c1 := hx.cell i (by rw [HNX.out]; omega)
        have c2 := hy.cell i (by rw [HNY.out]; omega)
        obtain ⟨a, HA⟩ := name_it (X.getD i 0)
        obtain ⟨b, HB⟩ := name_it (Y.getD i 0)
        rw [HA.out] at c1
        rw [HB.out] at c2
        have hi1 : (i : Int) < (nx : Int) := by omega
        have hi0 : (0 : Int) ≤ (i : Int) := by omega
        rcases Nat.lt_trichotomy a b with h | h | h
        · have hr : Hid (r = -1) := by rw [← HR.out]; exact ord_lt (ord_top HNX.out HNY.out dX dY HD.out (by omega) (by rw [HA.out, HB.out]; exact h))
          have hb : ((a : Int) != (b : Int)) = true := by rw [bne_iff_ne]; omega
          have hb2 : (a : Int) < (b : Int) := by omega
          go_wp2_with fail
          go_region
          all_goals
            go_wp2_with fail
            go_region
            all_goals
              go_wp2_with fail
              go_ret
              exact ⟨ret_eq (by rw [hr.out]; rfl), hch.drew.drew⟩
        · have hst : Hid (X.drop i = Y.drop i) := by
            have l1 : i < X.length := by rw [HNX.out]; omega
            have l2 : i < Y.length := by rw [HNY.out]; omega
            have e1 := List.drop_eq_getElem_cons l1
            have e2 := List.drop_eq_getElem_cons l2
            have a1 := HA.out
            have b1 := HB.out
            rw [getD_lt _ _ l1] at a1
            rw [getD_lt _ _ l2] at b1
            show X.drop i = Y.drop i
            rw [e1, e2, HD.out, a1, b1, h]
          have hb : ((a : Int) != (b : Int)) = false := by rw [bne_eq_false_iff_eq]; omega
          clear h
          go_wp2_with fail
          go_region
          all_goals
            go_wp2_with fail
            go_roundw
            case rel => exact ⟨i, by omega, rfl, hst.out, hx.drew, hy.drew, hch.drew⟩
            case measure => simp [intOf]
        · have hr : Hid (r = 1) := by rw [← HR.out]; exact ord_gt (ord_top HNY.out HNX.out dY dX HD.out.symm (by omega) (by rw [HA.out, HB.out]; exact h))
          have hb : ((a : Int) != (b : Int)) = true := by rw [bne_iff_ne]; omega
          have hb2 : ¬ (a : Int) < (b : Int) := by omega
          go_wp2_with fail
          go_region
          all_goals
            go_wp2_with fail
            go_region
            all_goals
              go_wp2_with fail
              go_ret
              exact ⟨ret_eq (by rw [hr.out]; rfl), hch.drew.drew⟩
      · have ht1 : t = 0 := by omega
        have hr : Hid (r = 0) := by
          have h1 := HD.out
          rw [ht1, List.drop_zero, List.drop_zero] at h1
          rw [← HR.out, h1]; exact ord_eq rfl
        subst ht1
        go_wp2_with fail
        go_ret
        exact ⟨ret_eq (by rw [hr.out]; rfl), hch⟩
  · have hr : Hid (r = 1) := by rw [← HR.out]; exact ord_gt (lv_lt_of_len (by omega) dY nX (by rw [HNX.out, HNY.out]; exact h))
    go_enter Tryz.func106, Tryz.ntmps106
    go_wp2_with fail
    go_ret
    exact ⟨ret_eq (by rw [hr.out]; rfl), Chg.refl _ _⟩

end Go.Proofs.YtjmonodjnljhdaaGreatDoor
