/-
  Several parts put together: V8, V9.
-/
import Derived.Test.YtogciehmdlfkfaaGreatDoorGR
import Derived.Test.YtogciehmdlfkfaaGreatDoorGP
/- Part V8. -/

namespace Go.Proofs.YtogciehmdlfkfaaGreatDoor
open Go.RowKit Nd
set_option maxRecDepth 20000 in
set_option maxHeartbeats 1000000 in
theorem rSignN (x : Q3) (p : Rat) (k : Nat) (w : World) (hx : Num x p k) (hk : k ≤ 34359738367) :
    Calls Tryz.prog 35 #[.agg #[.bool x.neg, .string x.num, .string x.den]] w fun e w' => e = .returned (.int .i64 (sg p)) ∧ Chg [] w w' := by
  have b1 := Blk3.alloc w (.bool x.neg) (.string x.num) (.string x.den) 25
  have hch : Chg [] w (w.alloc (.cells #[.bool x.neg, .string x.num, .string x.den] 25)) := (Chg.refl _ _).alloc _
  go_enter Tryz.func35, Tryz.ntmps35
  go_wp2_with fail
  obtain ⟨w0, HWw0⟩ := name_it ((w).alloc (.cells #[.bool x.neg, .string x.num, .string x.den] 25))
  rw [HWw0.out] at b1 hch ⊢
  refine (rFixN x p k _ hx (by omega)).mono ?_
  rintro e w1 ⟨y, rfl, hy, c1⟩
  replace b1 := b1.keep c1 (by simp)
  replace hch := hch.then c1
  clear c1
  have b1c0 := b1.c0
  have b1c1 := b1.c1
  have b1c2 := b1.c2
  have b1f0 := b1.f0
  have b1f1 := b1.f1
  have b1f2 := b1.f2
  have b1l := b1.lt
  go_wp2_with fail
  refine (rSignum_any y p k _ hy).mono ?_
  rintro e w1 ⟨rfl, c1⟩
  clear b1c0 b1f0 b1c1 b1f1 b1c2 b1f2 b1l
  replace b1 := b1.keep c1 (by simp)
  replace hch := hch.then c1
  clear c1
  have b1c0 := b1.c0
  have b1c1 := b1.c1
  have b1c2 := b1.c2
  have b1f0 := b1.f0
  have b1f1 := b1.f1
  have b1f2 := b1.f2
  have b1l := b1.lt
  go_wp2_with fail
  go_ret
  exact ⟨rfl, hch⟩

end Go.Proofs.YtogciehmdlfkfaaGreatDoor

/- Part V9. -/

namespace Go.Proofs.YtogciehmdlfkfaaGreatDoor
open Go.RowKit Nd
end Go.Proofs.YtogciehmdlfkfaaGreatDoor
