/-
  Walks of the reference: short.
-/
import Derived.Test.YtjmonodjnljhdaaDoorR6
namespace Go.Proofs.YtjmonodjnljhdaaDoor
open Go.RowKit Nd

set_option maxRecDepth 20000 in
set_option maxHeartbeats 1000000 in
theorem short_row (g cap d : Nat) (X : List Nat) (w : World) (hX : Row 77 .u32 w g cap X) (dX : dig 4294967296 X) (lx : X.length ≤ 1099511627776) (hd0 : 0 < d) (hd : d < 4294967296) :
    Calls Tryd.prog 75 #[.slice (some ⟨g, 0, none⟩) X.length cap, .int .u32 d] w fun e w' => ∃ (g' c' r : Nat) (L : List Nat), e = .returned (.tuple #[.slice (some ⟨g', 0, none⟩) L.length c', .int .u32 r]) ∧
      Row 77 .u32 w' g' c' L ∧ w.heap.size ≤ g' ∧ L.length ≤ X.length ∧ dig 4294967296 L ∧ noz L ∧ lv 4294967296 L = lv 4294967296 X / d ∧ r = lv 4294967296 X % d ∧ Chg [] w w' := by
  obtain ⟨i0, hi, hz0, hz1, hz2⟩ := info_parts Tryd.info32
  obtain ⟨n, HN⟩ := name_it X.length
  have hs0 := ShI.start (d := d) (X := X) (L := List.replicate X.length 0) hd0 (by simp) (dig_replicate (by omega) _)
  rw [HN.out] at hs0 ⊢
  rw [HN.out] at lx
  have HS0 := Lib.hid hs0
  clear hs0
  go_enter Tryd.func75, Tryd.ntmps75
  go_wp2_with (at_make; refine wpList_make_cap _ rfl (.tmp 10) (.tmp 10) 50 rfl 77 i0 .u32 Tryd.underlying50 hi hz0 hz1 .i64 .i64 _ _ n n rfl rfl rfl rfl (Nat.le_refl _) (by rw [hz2]; omega) (by omega) ?_)
  intro w1 hrow hch
  have hX1 := hX.keep hch (by simp)
  have hne : g ≠ w.heap.size := by have := hX.lt; omega
  obtain ⟨b, HG⟩ := name_it w.heap.size
  rw [HG.out] at hrow hne ⊢
  clear hi hz0 hz1 hz2 hX
  go_wp2_with fail
  go_loopw [7, 8] (fun rv iv wr => ∃ (t r : Nat) (L : List Nat), t ≤ n ∧ iv = .int .i64 ((t : Int) - 1) ∧ rv = .int .u64 r ∧ ShI d X t r L ∧ Row 77 .u32 wr b n L ∧ Row 77 .u32 wr g cap X ∧ Chg [] w wr)
    (fun _ iv _ => (intOf iv + 1).toNat)
  case atStart => exact ⟨n, 0, _, Nat.le_refl _, rfl, rfl, HS0.out, hrow, hX1, hch⟩
  case round =>
    obtain ⟨t, r, L, ht, rfl, rfl, hP, hr, hx, hch⟩ := hrel
    clear hX1 hrow HS0
    by_cases ht0 : 1 ≤ t
    · obtain ⟨i, rfl⟩ : ∃ i, t = i + 1 := ⟨t - 1, by omega⟩
      have hii : ((i + 1 : Nat) : Int) - 1 = (i : Int) := by omega
      rw [hii]
      clear hii ht0
      have hcx := hx.cell i (by rw [HN.out]; omega)
      obtain ⟨x, HX⟩ := name_it (X.getD i 0)
      rw [HX.out] at hcx
      have hx1 : x < 4294967296 := by rw [← HX.out]; exact dig_getD (by omega) dX i
      have hcl := hr.cell i (by rw [hP.len, HN.out]; omega)
      have hfr := hr.frozen i
      obtain ⟨old, HO⟩ := name_it (L.getD i 0)
      rw [HO.out] at hcl
      have hst := hP.step (by rw [HN.out]; omega) HX.out dX
      have hr1 := hP.rest
      have hor : bits BinOp.or IntKind.u64 ((r : Int) * 4294967296) (x : Int) = ((r * 4294967296 + x : Nat) : Int) := by
        have := or_u64 r x 32 (by omega) (by omega) (by omega)
        simpa using this
      obtain ⟨T, HT⟩ := name_it (r * 4294967296 + x)
      rw [HT.out] at hor hst
      have hT : T ≤ 18446744073709551615 := by have := HT.out; omega
      obtain ⟨q, HQ⟩ := name_it (T / d)
      obtain ⟨s, HS⟩ := name_it (T % d)
      rw [HQ.out, HS.out] at hst
      have hq : (T : Int) / (d : Int) = (q : Int) := by rw [← HQ.out]; simp
      have hs : (T : Int) % (d : Int) = (s : Int) := by rw [← HS.out]; simp
      have hqb := hst.1
      have HST := Lib.hid hst.2
      have hsb : s < 4294967296 := by rw [← HS.out]; exact Nat.lt_trans (Nat.mod_lt _ hd0) hd
      clear hst hP
      go_wp2_with fail
      go_roundw
      case rel => exact ⟨i, s, L.set i q, by omega, rfl, by rw [hs], HST.out, hr.store _ _, hx.other hne _, hch.setCell (.inr (by rw [← HG.out]; exact Nat.le_refl _)) _⟩
      case measure => simp [intOf]
    · have ht1 : t = 0 := by omega
      subst ht1
      have hd2 := Lib.hid hP.done
      have hll : Hid (L.length = n) := by show L.length = n; rw [hP.len]; exact HN.out
      have dL := hP.digs
      have hr1 := hP.rest
      clear hP
      go_wp2_with fail
      rw [← hll.out]
      rw [← hll.out] at hr
      refine (strip_row b L.length L _ hr).mono ?_
      rintro e w3 ⟨rfl, rfl⟩
      have hrt : Row _ _ _ _ _ (trim L) := hr.take (tl L) (tl_le L)
      have hle := tl_le L
      have hrm : ((r : Int) % 4294967296) = (r : Int) := by omega
      go_wp2_with fail
      go_ret2
      exact ⟨b, L.length, r, trim L, by rw [trim_length]; rfl, hrt, by rw [← HG.out]; exact Nat.le_refl _, by rw [trim_length]; have := hll.out; omega, trim_dig dL, trim_noz L, by rw [lv_trim]; exact hd2.out.1, hd2.out.2, hch⟩

end Go.Proofs.YtjmonodjnljhdaaDoor
