/-
  same and sum of law 4.
-/
import Derived.Test.YtdlejpaaoinokaaAB
namespace Go.Proofs.Ytdlejpaaoinokaa
open Go.RowKit Nd

set_option maxRecDepth 20000 in
set_option maxHeartbeats 2000000 in
theorem same_any (f : Nat → Nat) (g h n ca cb : Nat) (w : World) (hn : n ≤ 1000000000) (hg : Fb w g n (fun j => .int .i64 ((f j : Nat) : Int))) (hh : Fb w h n (fun j => .int .i64 ((f j : Nat) : Int))) :
    Calls Try.prog 11 #[.slice (some ⟨g, 0, none⟩) n ca, .slice (some ⟨h, 0, none⟩) n cb] w fun e w' => e = .returned (.bool true) ∧ Chg [] w w' := by
  have hch : Chg [] w w := Chg.refl _ _
  go_enter Try.func11, Try.ntmps11
  go_wp2_with fail
  go_loopw [13] (fun iv wr => ∃ i : Nat, i ≤ n ∧ iv = .int .i64 i ∧ Fb wr g n (fun j => .int .i64 ((f j : Nat) : Int)) ∧ Fb wr h n (fun j => .int .i64 ((f j : Nat) : Int)) ∧ Chg [] w wr) (fun iv _ => n - (intOf iv).toNat)
  case atStart => exact ⟨0, Nat.zero_le _, rfl, hg, hh, hch⟩
  case round =>
    clear hg hh hch
    obtain ⟨i, hi, rfl, hg, hh, hch⟩ := hrel
    by_cases hlt : i < n
    · have p1 := hg.cell i hlt
      have p2 := hh.cell i hlt
      have i1 : (0 : Int) ≤ (i : Int) := by omega
      have i2 : (i : Int) < (n : Int) := by omega
      obtain ⟨x, HX⟩ := name_it ((f i : Nat) : Int)
      rw [HX.out] at p1 p2
      go_wp2_with fail
      go_quiet (fail)
      go_wp2_with fail
      go_roundw
      case rel =>
        have c1 := Chg.drewN (Chg.refl [] wr) nq
        exact ⟨i + 1, by omega, by go_num, hg.keep0 c1, hh.keep0 c1, hch.then c1⟩
      case measure => simp [intOf]; omega
    · obtain rfl : i = n := by omega
      go_wp2_with fail
      go_ret
      exact ⟨rfl, hch⟩
set_option maxRecDepth 20000 in
/-- Two lists without elements. -/
theorem same_nil (A B : Option Addr) (ca cb : Nat) (w : World) :
    Calls Try.prog 11 #[.slice A 0 ca, .slice B 0 cb] w fun e w' => e = .returned (.bool true) ∧ Chg [] w w' := by
  go_enter Try.func11, Try.ntmps11
  go_wp2_with fail
  go_loopw [13] (fun iv wr => iv = .int .i64 0 ∧ Chg [] w wr) (fun _ _ => 0)
  case atStart => exact ⟨rfl, Chg.refl _ _⟩
  case round =>
    obtain ⟨rfl, hch⟩ := hrel
    go_wp2_with fail
    go_ret
    exact ⟨rfl, hch⟩
end Go.Proofs.Ytdlejpaaoinokaa
