/-
  Several parts put together: V6, V7.
-/
import Derived.Test.YtogciehmdlfkfaaGreatDoorGQ
/- Part V6. -/

namespace Go.Proofs.YtogciehmdlfkfaaGreatDoor
open Go.RowKit Nd
theorem sq_val2 {x y : Q3} {p q : Rat} {k l : Nat} (hx : Val x p k) (hy : Val y q l) : sq (x.neg != y.neg) (p.num.natAbs * q.num.natAbs) (p.den * q.den) = p * q := by
  rw [← sq_prod, hx.enc.neg, hy.enc.neg, sq_self, sq_self]
theorem sq_val3 {x y : Q3} {p q : Rat} {k l : Nat} (hx : Val x p k) (hy : Val y q l) (h0 : q ≠ 0) : sq (x.neg != y.neg) (p.num.natAbs * q.den) (p.den * q.num.natAbs) = p / q := by
  rw [sq_div _ _ (nat0 h0) q.den_nz, hx.enc.neg, hy.enc.neg, sq_self, sq_self]
theorem bd_div {p q : Rat} {k l : Nat} (hp : Bd k p) (hq : Bd l q) (h0 : q ≠ 0) : Bd (k + l) (p / q) := by
  have hn := nat0 h0
  have e : q⁻¹ = sq (decide (q.num < 0)) q.den q.num.natAbs := by rw [sq_inv q.den_nz hn, sq_self]
  have hb : Bd l q⁻¹ := by rw [e]; exact Bd_sq hn hq.2 hq.1
  rw [Rat.div_def]
  exact hp.mul hb

end Go.Proofs.YtogciehmdlfkfaaGreatDoor

/- Part V7. -/

namespace Go.Proofs.YtogciehmdlfkfaaGreatDoor
open Go.RowKit Nd
set_option maxRecDepth 20000 in
set_option maxHeartbeats 1000000 in
theorem rSignum_any (x : Q3) (p : Rat) (k : Nat) (w : World) (hx : Val x p k) :
    Calls Tryz.prog 55 #[.agg #[.bool x.neg, .string x.num, .string x.den]] w fun e w' => e = .returned (.int .i64 (sg p)) ∧ Chg [] w w' := by
  have b1 := Blk3.alloc w (.bool x.neg) (.string x.num) (.string x.den) 25
  have hch : Chg [] w (w.alloc (.cells #[.bool x.neg, .string x.num, .string x.den] 25)) := (Chg.refl _ _).alloc _
  have HR := Lib.hid hx.sg
  have hz : x.num.toList.isEmpty = true → x.neg = false := by
    intro h
    have h0 : p = 0 := by rw [hx.isz] at h; simpa using h
    rw [hx.enc.neg, h0]; rfl
  clear hx
  obtain ⟨xn, xN, xD⟩ := x
  simp only at HR b1 hch hz
  cases he : xN.toList.isEmpty
  · rw [he] at HR
    clear hz
    cases xn
    · go_enter Tryz.func55, Tryz.ntmps55
      go_wp2_with fail
      go_ret
      exact ⟨ret_eq (by have := HR.out; simp at this; rw [this]; rfl), (Chg.refl _ _).alloc _⟩
    · go_enter Tryz.func55, Tryz.ntmps55
      go_wp2_with fail
      go_ret
      exact ⟨ret_eq (by have := HR.out; simp at this; rw [this]; rfl), (Chg.refl _ _).alloc _⟩
  · rw [he] at HR
    obtain rfl := hz he
    clear hz
    go_enter Tryz.func55, Tryz.ntmps55
    go_wp2_with fail
    go_ret
    exact ⟨ret_eq (by have := HR.out; simp at this; rw [this]; rfl), (Chg.refl _ _).alloc _⟩

theorem sg_lt (p q : Rat) : decide (sg (p - q) < 0) = decide (p < q) := by
  have h : sg (p - q) < 0 ↔ p < q := by
    unfold sg
    by_cases h : p < q
    · have : p - q < 0 := by grind
      simp [h, this]
    · have : ¬ p - q < 0 := by grind
      rw [if_neg this]
      split <;> simp [h]
  simp [h]

end Go.Proofs.YtogciehmdlfkfaaGreatDoor
