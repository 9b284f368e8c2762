/-
  Several parts put together: QR1, Q13.
-/
import Derived.Test.YtogciehmdlfkfaaGreatDoorR15
import Derived.Test.YtogciehmdlfkfaaGreatDoorGJ
import Derived.Test.YtogciehmdlfkfaaGreatDoorGM
/- Part QR1. -/

namespace Go.Proofs.YtogciehmdlfkfaaGreatDoor
open Go.RowKit Nd

theorem nrm_same (s : ByteArray) : ((nrmB s).toList == s.toList) = nolB s := by
  rw [toList_data, toList_data]
  have h : (nrmB s).data.toList = nrm s.data.toList := by simp [nrmB]
  rw [h]
  cases hb : nolB s
  · have hn : ¬ nolead s.data.toList := fun hc => by rw [nolB_iff.2 hc] at hb; simp at hb
    rw [beq_eq_false_iff_ne]
    intro he
    exact hn (he ▸ nrm_nolead s.data.toList)
  · rw [nrm_of_nolead _ (nolB_iff.1 hb)]; exact beq_self_eq_true _

set_option maxRecDepth 20000 in
set_option maxHeartbeats 1000000 in
theorem rValid_any (x : Q3) (w : World) (h1 : x.num.size ≤ 1099511627776) (h2 : x.den.size ≤ 1099511627776) :
    Calls Tryz.prog 84 #[.agg #[.bool x.neg, .string x.num, .string x.den]] w fun e w' => e = .returned (.bool (okB x)) ∧ Chg [] w w' := by
  have b1 := Blk3.alloc w (.bool x.neg) (.string x.num) (.string x.den) 25
  have hch : Chg [] w (w.alloc (.cells #[.bool x.neg, .string x.num, .string x.den] 25)) := (Chg.refl _ _).alloc _
  obtain ⟨r, HR⟩ := name_it (okB x)
  rw [HR.out]
  have HE := Lib.hid (okB_eq x.neg x.num x.den)
  have hr0 : Hid (r = (nolB x.num && nolB x.den && !(x.den.toList == [1]) && (if x.num.toList.isEmpty then x.den.toList.isEmpty && !x.neg else x.den.toList.isEmpty || decide (Nat.gcd (val x.num) (val x.den) = 1)))) := by
    show _ = _
    rw [← HR.out]; exact HE.out
  clear HE
  have n1 := nrm_same x.num
  have n2 := nrm_same x.den
  obtain ⟨t1, T1⟩ := name_it (nolB x.num)
  obtain ⟨t2, T2⟩ := name_it (nolB x.den)
  obtain ⟨t3, T3⟩ := name_it (x.den.toList == [1])
  obtain ⟨t4, T4⟩ := name_it x.num.toList.isEmpty
  obtain ⟨t5, T5⟩ := name_it x.den.toList.isEmpty
  rw [T1.out] at n1
  rw [T2.out] at n2
  rw [T1.out, T2.out, T3.out, T4.out, T5.out] at hr0
  have q3 := T3.out
  have q4 := T4.out
  have q5 := T5.out
  cases t1
  · have HR2 : Hid (r = false) := by show _ = _; rw [hr0.out]; simp
    go_enter Tryz.func84, Tryz.ntmps84
    go_wp2_with fail
    obtain ⟨w0, HW0⟩ := name_it ((w.alloc (.cells #[.bool x.neg, .string x.num, .string x.den] 25)))
    rw [HW0.out] at b1 hch ⊢
    have b1c0 := b1.c0
    have b1c1 := b1.c1
    have b1c2 := b1.c2
    go_quiet ((go_at_call 110; exact Calls.quiet_of_same ((rnormalize_any _ _ (by omega)).mono fun _ _ h => ⟨h.1, h.2.symm⟩)))
    go_wp2_with fail
    go_ret
    exact ⟨ret_eq (by rw [HR2.out]; rfl), hch.drewN _⟩
  cases t2
  · have HR2 : Hid (r = false) := by show _ = _; rw [hr0.out]; simp
    go_enter Tryz.func84, Tryz.ntmps84
    go_wp2_with fail
    obtain ⟨w0, HW0⟩ := name_it ((w.alloc (.cells #[.bool x.neg, .string x.num, .string x.den] 25)))
    rw [HW0.out] at b1 hch ⊢
    have b1c0 := b1.c0
    have b1c1 := b1.c1
    have b1c2 := b1.c2
    go_quiet ((go_at_call 110; exact Calls.quiet_of_same ((rnormalize_any _ _ (by omega)).mono fun _ _ h => ⟨h.1, h.2.symm⟩)))
    go_wp2_with fail
    go_ret
    exact ⟨ret_eq (by rw [HR2.out]; rfl), hch.drewN _⟩
  cases t3
  rotate_left
  · have HR2 : Hid (r = false) := by show _ = _; rw [hr0.out]; simp
    go_enter Tryz.func84, Tryz.ntmps84
    go_wp2_with fail
    obtain ⟨w0, HW0⟩ := name_it ((w.alloc (.cells #[.bool x.neg, .string x.num, .string x.den] 25)))
    rw [HW0.out] at b1 hch ⊢
    have b1c0 := b1.c0
    have b1c1 := b1.c1
    have b1c2 := b1.c2
    go_quiet ((go_at_call 110; exact Calls.quiet_of_same ((rnormalize_any _ _ (by omega)).mono fun _ _ h => ⟨h.1, h.2.symm⟩)))
    go_wp2_with fail
    go_ret
    exact ⟨ret_eq (by rw [HR2.out]; rfl), hch.drewN _⟩
  cases t4
  rotate_left
  · have HNG : Hid (x.neg = true ∨ x.neg = false) := Lib.hid (by cases x.neg <;> simp)
    cases t5 <;> rcases HNG.out with hng | hng
    all_goals
      rw [hng] at hr0
      have HNX := Lib.hid hng
      clear hng
      have HR2 := Lib.hid hr0.out
      go_enter Tryz.func84, Tryz.ntmps84
      go_wp2_with fail
      obtain ⟨w0, HW0⟩ := name_it ((w.alloc (.cells #[.bool x.neg, .string x.num, .string x.den] 25)))
      rw [HW0.out] at b1 hch ⊢
      have hng := HNX.out
      have b1c0 := b1.c0
      have b1c1 := b1.c1
      have b1c2 := b1.c2
      go_quiet ((go_at_call 110; exact Calls.quiet_of_same ((rnormalize_any _ _ (by omega)).mono fun _ _ h => ⟨h.1, h.2.symm⟩)))
      go_wp2_with fail
      go_ret
      exact ⟨ret_eq (by rw [HR2.out]; rfl), hch.drewN _⟩
  · cases t5
    rotate_left
    · have HR2 : Hid (r = true) := by show _ = _; rw [hr0.out]; simp
      go_enter Tryz.func84, Tryz.ntmps84
      go_wp2_with fail
      obtain ⟨w0, HW0⟩ := name_it ((w.alloc (.cells #[.bool x.neg, .string x.num, .string x.den] 25)))
      rw [HW0.out] at b1 hch ⊢
      have b1c0 := b1.c0
      have b1c1 := b1.c1
      have b1c2 := b1.c2
      go_quiet ((go_at_call 110; exact Calls.quiet_of_same ((rnormalize_any _ _ (by omega)).mono fun _ _ h => ⟨h.1, h.2.symm⟩)))
      go_wp2_with fail
      go_ret
      exact ⟨ret_eq (by rw [HR2.out]; rfl), hch.drewN _⟩
    · obtain ⟨yy, HYY⟩ := name_it (decide (Nat.gcd (val x.num) (val x.den) = 1))
      rw [HYY.out] at hr0
      have HR2 : Hid (r = yy) := by show _ = _; rw [hr0.out]; simp
      go_enter Tryz.func84, Tryz.ntmps84
      go_wp2_with fail
      obtain ⟨w0, HW0⟩ := name_it ((w.alloc (.cells #[.bool x.neg, .string x.num, .string x.den] 25)))
      rw [HW0.out] at b1 hch ⊢
      have b1c0 := b1.c0
      have b1c1 := b1.c1
      have b1c2 := b1.c2
      go_quiet ((go_at_call 110; exact Calls.quiet_of_same ((rnormalize_any _ _ (by omega)).mono fun _ _ h => ⟨h.1, h.2.symm⟩)))
      go_wp2_with fail
      replace hch := hch.drewN nq
      clear b1c0 b1c1 b1c2
      refine (rGCD_any x.num x.den _ h1 h2).mono ?_
      rintro e w1 ⟨g, rfl, hg, c1⟩
      have hg1 := Is_isone hg
      rw [HYY.out] at hg1
      clear hg
      go_wp2_with fail
      go_ret
      exact ⟨ret_eq (by rw [HR2.out]; rfl), hch.then c1⟩

end Go.Proofs.YtogciehmdlfkfaaGreatDoor

/- Part Q13. -/

namespace Go.Proofs.YtogciehmdlfkfaaGreatDoor
open Go.RowKit Nd

/-- Numbers laid in a block, one behind the other. -/
structure Rats (w : World) (g : Nat) (xs : List Q3) : Prop where
  lt : g < w.heap.size
  cells : ∀ j, j < xs.length → w.cell? ⟨g, j * 3, none⟩ = some (.bool (xs.getD j q0).neg) ∧ w.cell? ⟨g, j * 3 + 1, none⟩ = some (.string (xs.getD j q0).num) ∧ w.cell? ⟨g, j * 3 + 2, none⟩ = some (.string (xs.getD j q0).den)
theorem Rats.keep {gs : List Nat} {w w' : World} {g : Nat} {xs : List Q3} (h : Rats w g xs) (hc : Chg gs w w') (hg : g ∉ gs) : Rats w' g xs := by
  refine ⟨Nat.lt_of_lt_of_le h.lt hc.size, fun j hj => ?_⟩
  obtain ⟨a, b, c⟩ := h.cells j hj
  exact ⟨(hc.cell h.lt hg).trans a, (hc.cell h.lt hg).trans b, (hc.cell h.lt hg).trans c⟩

theorem Rats.one (w : World) (x : Q3) (e : TypeId) : Rats (w.alloc (.cells #[.bool x.neg, .string x.num, .string x.den] e)) w.heap.size [x] := by
  refine ⟨by simp, fun j hj => ?_⟩
  obtain rfl : j = 0 := by simpa using hj
  simp

end Go.Proofs.YtogciehmdlfkfaaGreatDoor
