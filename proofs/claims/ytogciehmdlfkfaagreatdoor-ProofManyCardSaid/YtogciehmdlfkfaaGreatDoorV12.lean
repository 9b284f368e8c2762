/-
  The reference: Floor: what it wants of divide, plus and reduced.
-/
import Derived.Test.YtogciehmdlfkfaaGreatDoorGQ
import Derived.Test.YtogciehmdlfkfaaGreatDoorR15
import Derived.Test.YtogciehmdlfkfaaGreatDoorGH
namespace Go.Proofs.YtogciehmdlfkfaaGreatDoor
open Go.RowKit Nd
theorem flo_int {p : Rat} (h : p.den = 1) : flo p = p := by
  have e := sq_self p
  rw [h] at e
  have f := flo_sq (a := decide (p.num < 0)) (n := p.num.natAbs) (d := 1) (k := p.num.natAbs) (by omega) (by simp [Nat.mod_one])
  rw [e] at f
  exact f.symm
theorem mod_den {p : Rat} (h : ¬ p.den = 1) : p.num.natAbs % p.den ≠ 0 := by
  intro hc
  have h1 := Nat.gcd_eq_left (Nat.dvd_of_mod_eq_zero hc)
  rw [gcd_den] at h1
  exact h h1.symm
theorem flo_neg {p : Rat} (h : ¬ p.den = 1) (hn : p.num < 0) : sq true (p.num.natAbs / p.den + 1) 1 = flo p := by
  have f := flo_sq (a := true) (n := p.num.natAbs) (d := p.den) (k := p.num.natAbs / p.den + 1) p.den_nz (by simp [mod_den h])
  have e := sq_self p
  rw [decide_eq_true hn] at e
  rwa [e] at f
theorem flo_pos {p : Rat} (hn : ¬ p.num < 0) : sq false (p.num.natAbs / p.den) 1 = flo p := by
  have f := flo_sq (a := false) (n := p.num.natAbs) (d := p.den) (k := p.num.natAbs / p.den) p.den_nz (by simp)
  have e := sq_self p
  rw [decide_eq_false hn] at e
  rwa [e] at f
theorem dig_one : dig 4294967296 [1] := by intro x hx; simp at hx; omega
theorem noz_one : noz [1] := by simp [noz]
theorem rdivideN (ga ca gb cb : Nat) (A C : List Nat) (w : World) (hA : Row 120 .u32 w ga ca A) (hC : Row 120 .u32 w gb cb C) (dA : dig 4294967296 A) (dC : dig 4294967296 C) (nA : noz A) (nC : noz C)
    (la : A.length ≤ 1099511627775) (hC0 : lv 4294967296 C ≠ 0) :
    Calls Tryz.prog 135 #[.slice (some ⟨ga, 0, none⟩) A.length ca, .slice (some ⟨gb, 0, none⟩) C.length cb] w fun e w' => ∃ qv rv Q R, e = .returned (.tuple #[qv, rv]) ∧ RDiv w w' A C qv rv Q R ∧ Chg [] w w' := by
  refine (rdivide_any ga ca gb cb A C w hA hC dA dC nA nC la (by rintro rfl; exact hC0 rfl)).mono ?_
  rintro e w1 ⟨qv, rv, rfl, Q, R, D⟩
  exact ⟨qv, rv, Q, R, rfl, D, D.chg⟩
set_option maxRecDepth 20000 in
theorem reduced_nil (neg : Bool) (v : Value) (w : World) :
    Calls Tryz.prog 104 #[.bool neg, .slice none 0 0, v] w fun e w' => e = .returned (.agg #[.bool false, .string ⟨#[]⟩, .string ⟨#[]⟩]) ∧ Chg [] w w' := by
  have hch : Chg [] w (w.alloc (.cells #[.bool false, .string ⟨#[]⟩, .string ⟨#[]⟩] 25)) := (Chg.refl _ _).alloc _
  go_enter Tryz.func104, Tryz.ntmps104
  go_wp2_with fail
  exact bodyPost_ret (v := .agg #[.bool false, .string ⟨#[]⟩, .string ⟨#[]⟩]) (by simp [results, Tryz.results104, go_sem]) rfl ⟨rfl, hch⟩

end Go.Proofs.YtogciehmdlfkfaaGreatDoor
