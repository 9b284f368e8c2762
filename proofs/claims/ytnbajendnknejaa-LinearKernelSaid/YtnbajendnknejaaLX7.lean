/-
  slices.Clone of a list of numbers; fractions.
-/
import Derived.Test.YtnbajendnknejaaLX6
import Derived.Test.YtnbajendnknejaaGP
namespace Go.Proofs.Ytnbajendnknejaa
open Go.RowKit Nd
theorem Nums.empty (w : World) : Nums (w.alloc (.cells #[] 49)) w.heap.size 0 [] := by
  have := World.ownsRow_lit (base := 0) (e := 49) (size := 3) w #[] 0 (Nat.zero_le _) (by simp [maxLen]) (by simp)
  simpa [Nums, Own3, cq] using this

set_option maxRecDepth 20000 in
set_option maxHeartbeats 2000000 in
theorem clone_any (xs : List Q3) (m g o ca : Nat) (w : World) (hl : xs.length = m) (hm0 : 0 < m) (hm : m ≤ 1000000) (hx : Rds w (some ⟨g, o, none⟩) xs) :
    Calls Try.prog 110 #[.slice (some ⟨g, o, none⟩) m ca] w fun e w' => ∃ h c, e = .returned (.slice (some ⟨h, 0, none⟩) m c) ∧ w.heap.size ≤ h ∧ Nums w' h c xs ∧ Chg [] w w' := by
  have h0 := Nums.empty w
  have c0 : Chg [] w (w.alloc (.cells #[] 49)) := (Chg.refl _ _).alloc _
  replace hx := hx.keep0 c0
  have qT := Lib.run_eql_slice_nil (P := Try.prog) w 23 49 (some ⟨g, o, none⟩) m ca 0 0 Try.under3
  go_enter Try.func110, Try.ntmps110
  go_wp2_with (at_builtin; refine wpList_append3 _ rfl (.tmp 5) (.tmp 6) rfl (.slice (some ⟨w.heap.size, 0, none⟩) 0 0) [] rfl h0 (some ⟨g, o, none⟩) m ca xs rfl hl hx (by simp; omega) ?_)
  intro v w1 hv c1 hown
  go_wp2_with fail
  go_ret
  rcases Own3.form hv with ⟨_, h9⟩ | ⟨h, c, rfl, _, _, _, _⟩
  · subst h9; simp at hl; omega
  · have hh : w.heap.size ≤ h := by
      simp [Value.ownBlock] at hown
      omega
    rw [hl]
    exact ⟨h, c, rfl, hh, by unfold Nums; exact hv, c0.fresh (g := w.heap.size) (by simpa [Value.ownBlock] using c1) (Nat.le_refl _)⟩

set_option maxRecDepth 20000 in
set_option maxHeartbeats 4000000 in
theorem fractions_any (xs : List Q3) (p : Nat → Rat) (m k kd : Nat) (d : Q3) (D : Rat) (g o ca : Nat) (w : World) (hxs : Row1 xs p m k) (hd : Val d D kd) (hD : D ≠ 0) (hm0 : 0 < m) (hm : m ≤ 1000000) (hk : k + kd ≤ 34359738367) (hx : Rds w (some ⟨g, o, none⟩) xs) :
    Calls Try.prog 66 #[.slice (some ⟨g, o, none⟩) m ca, .agg #[.bool d.neg, .string d.num, .string d.den]] w fun e w' => ∃ h c zs, e = .returned (.slice (some ⟨h, 0, none⟩) m c) ∧ w.heap.size ≤ h ∧ Row1 zs (fun j => p j / D) m (k + kd) ∧ Nums w' h c zs ∧ Chg [] w w' := by
  have hlx := hxs.len
  have HXS := Lib.hid hxs
  clear hxs
  have HD := Lib.hid hD
  clear hD
  have b1 := Blk3.alloc w (.bool d.neg) (.string d.num) (.string d.den) 49
  have hch : Chg [] w (w.alloc (.cells #[.bool d.neg, .string d.num, .string d.den] 49)) := (Chg.refl _ _).alloc _
  have HX0 := Lib.hid hx
  have hgl := (hx.el (j := 0) (by omega)).lt
  have hx1 := hx.keep0 hch
  clear hx
  go_enter Try.func66, Try.ntmps66
  go_wp2_with fail
  refine (clone_any xs m g o ca _ hlx hm0 hm hx1).mono ?_
  rintro e w1 ⟨h, c, rfl, hh, hz, c1⟩
  have hh2 : w.heap.size < h := Nat.lt_of_lt_of_le b1.lt hh
  replace b1 := b1.keep c1 (by simp)
  replace hch := hch.then c1
  clear c1 hx1 hh
  go_wp2_with fail
  go_loopw [12] (fun jv wr => ∃ (j : Nat) (zs : List Q3), j ≤ m ∧ jv = .int .i64 j ∧ zs.length = m ∧ (∀ t, t < j → Val (zs.getD t q0) (p t / D) (k + kd)) ∧ Nums wr h c zs ∧ Blk3 wr w.heap.size (.bool d.neg) (.string d.num) (.string d.den) ∧ Chg [] w wr) (fun jv _ => m - (intOf jv).toNat)
  case atStart => exact ⟨0, _, Nat.zero_le _, rfl, hlx, fun t h => absurd h (by omega), hz, b1, hch⟩
  case round =>
    clear hz b1 hch
    obtain ⟨j, zs, hj, rfl, hlz, hval, hz, b1, hch⟩ := hrel
    have HVAL := Lib.hid hval
    clear hval
    by_cases hlt : j < m
    · have e1 := (HX0.out.keep0 hch).el (j := j) (by omega)
      have v1 := HXS.out.val j hlt
      obtain ⟨x, HX⟩ := name_it (xs.getD j q0)
      rw [HX.out] at e1 v1
      obtain ⟨q, HQ⟩ := name_it (p j)
      rw [HQ.out] at v1
      have x0 := e1.a
      have x1 := e1.b
      have x2 := e1.c
      have i1 : (0 : Int) ≤ (j : Int) := by omega
      have i2 : (j : Int) < (m : Int) := by omega
      have b2 := Blk3.alloc wr (.bool x.neg) (.string x.num) (.string x.den) 49
      have c2 : Chg [] wr (wr.alloc (.cells #[.bool x.neg, .string x.num, .string x.den] 49)) := (Chg.refl _ _).alloc _
      have hsz := hch.size
      have hfit := hz.fits
      clear hj e1
      have a0 := b1.c0
      have a1 := b1.c1
      have a2 := b1.c2
      have hlb := b1.lt
      have hcap1 : (m : Int) ≤ (c : Int) := by omega
      go_wp2_with fail
      refine (DivideN x d q D k kd _ v1.num hd.num HD.out hk).mono ?_
      rintro e w3 ⟨z, rfl, hzv, c1⟩
      rw [← HQ.out] at hzv
      have c4 := c2.then c1
      replace b1 := b1.keep c4 (by simp)
      replace hz := hz.keep c4 (by simp)
      replace hch := hch.then c4
      clear c1 c2 c4 x0 x1 x2 a0 a1 a2 b2
      have HNX := Lib.hid (nums_set (P := fun t z => Val z (p t / D) (k + kd)) (by omega : j < zs.length) HVAL.out hzv)
      obtain ⟨s0, s1, s2⟩ := hz.rds.zero_at (j := j) (by omega)
      have s3 := hz.frozen (j * 3)
      have s4 := hz.frozen (j * 3 + 1)
      have s5 := hz.frozen (j * 3 + 2)
      clear hzv
      go_wp2_with fail
      go_roundw
      case rel => exact ⟨j + 1, zs.set j z, by omega, by go_num, by rw [List.length_set]; exact hlz, HNX.out, hz.store (by omega) z, b1.sto (by omega) _ _ _, hch.store3o (.inr (by omega)) _ _ _⟩
      case measure => simp [intOf]; omega
    · obtain rfl : j = m := by omega
      go_wp2_with fail
      go_ret
      exact ⟨h, c, zs, rfl, by omega, ⟨hlz, HVAL.out⟩, hz, hch⟩

end Go.Proofs.Ytnbajendnknejaa
