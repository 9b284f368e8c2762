/-
  The reference's has, One, NullSpace, Kernel; law 3: LinearKernel.
-/
import Derived.Test.YtpaochhaenehmaaLA21
namespace Go.Proofs.Ytpaochhaenehmaa
open Go.RowKit Nd

theorem one_val1 : Val ⟨false, ⟨#[1]⟩, ⟨#[]⟩⟩ 1 1 := ⟨⟨rfl, Is_one.2 rfl, Is_zero.2 rfl⟩, ⟨by decide, by decide⟩⟩
set_option maxRecDepth 20000 in
theorem rOne_any (w : World) : Calls Try.prog 29 #[] w fun e w' => e = .returned (.agg #[.bool false, .string ⟨#[1]⟩, .string ⟨#[]⟩]) ∧ Chg [] w w' := by
  go_enter Try.func29, Try.ntmps29
  go_wp2_with fail
  exact bodyPost_ret (v := .agg #[.bool false, .string ⟨#[1]⟩, .string ⟨#[]⟩]) (by simp [results, Try.results29, go_sem]) rfl ⟨rfl, (Chg.refl _ _).alloc _⟩

theorem MutV.regs {w : World} {gs hs : List Nat} {v : Value} {M : List (List Q3)} (h : MutV w gs v M) (hh : ∀ x, x ∈ hs → x ∈ gs ∨ w.heap.size ≤ x) : MutV w hs v M := by
  rcases h.form with ⟨rfl, rfl⟩ | ⟨g, cap, rfl, hM⟩
  · exact MutV.nil _ _
  · exact (hM.regs hh).toV
theorem MutV.keepg {w w' : World} {gs hs : List Nat} {v : Value} {M : List (List Q3)} (h : MutV w gs v M) (hc : Chg hs w w') (ho : ∀ x, x ∈ v.ownBlock.toList → x ∉ hs) (hh : ∀ x, x ∈ hs → x ∈ gs) : MutV w' gs v M := by
  rcases h.form with ⟨rfl, rfl⟩ | ⟨g, cap, rfl, hM⟩
  · exact MutV.nil _ _
  · exact (hM.keepg hc (ho g (by simp [Value.ownBlock])) hh).toV
theorem KRows.can {KM : List (List Q3)} {F : Nat → Nat → Rat} {pv : List Nat} {m c K : Nat} (h : KRows KM F pv m c K) : KM = canM (fun i => kvF F pv ((kcols pv c).getD i 0) pv.length) (kcols pv c).length m :=
  ext_getM (by rw [h.len, canM_length]) fun j hj => by
    rw [canM_length] at hj
    rw [canM_get _ m hj]
    exact (h.row j (by rw [h.len]; exact hj)).can

end Go.Proofs.Ytpaochhaenehmaa
