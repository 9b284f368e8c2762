/-
  The reference's Reduce; SameRows, SameInts; law 3: LinearReduce.
-/
import Derived.Test.YtpaochhaenehmaaLX20
import Derived.Test.YtpaochhaenehmaaLA20
namespace Go.Proofs.Ytpaochhaenehmaa
open Go.RowKit Nd
theorem MutD.mtx {w : World} {g cap : Nat} {M : List (List Q3)} {h c : Nat → Nat} {n m : Nat} (H : MutD w g cap M h c n m) (hl : M.length = n) (hr : ∀ i, i < n → (M.getD i []).length = m) : Mtx w (some ⟨g, 0, none⟩) M := by
  intro _
  refine ⟨g, 0, rfl, H.hdr.lt, fun i hi => ?_⟩
  have hN := H.nums (show i < n by omega)
  have hf := hN.fits
  rw [hr i (by omega)] at hf ⊢
  refine ⟨some ⟨h i, 0, none⟩, c i, by rw [Nat.zero_add]; exact (H.cel (by omega)).c, hf.1, hf.2, hN.rds⟩
/-- The numbers L can be read from A on. -/
def RdI (w : World) (A : Option Addr) (L : List Nat) : Prop := 0 < L.length → ∃ g, A = some ⟨g, 0, none⟩ ∧ g < w.heap.size ∧ ∀ j, j < L.length → w.cell? ⟨g, j, none⟩ = some (.int .i64 ((L.getD j 0 : Nat) : Int))
theorem RdI.keep0 {w w' : World} {A : Option Addr} {L : List Nat} (h : RdI w A L) (hc : Chg [] w w') : RdI w' A L := by
  intro hl
  obtain ⟨g, e, hlt, hcell⟩ := h hl
  exact ⟨g, e, Nat.lt_of_lt_of_le hlt hc.size, fun j hj => (hc.cell (p := ⟨g, j, none⟩) hlt (by simp)).trans (hcell j hj)⟩
theorem RdI.of_row {w : World} {g cap : Nat} {L : List Nat} (h : Row 3 .i64 w g cap L) : RdI w (some ⟨g, 0, none⟩) L := fun _ => ⟨g, rfl, h.lt, fun j hj => h.cell j hj⟩
theorem OwnI.rdi {w : World} {v : Value} {L : List Nat} (h : OwnI w v L) : ∃ A cap, v = .slice A L.length cap ∧ RdI w A L := by
  rcases h.form with ⟨rfl, rfl⟩ | ⟨g, cap, rfl, hR⟩
  · exact ⟨none, 0, rfl, fun h => absurd h (by simp)⟩
  · exact ⟨_, cap, rfl, RdI.of_row hR⟩

set_option maxRecDepth 20000 in
set_option maxHeartbeats 1000000 in
theorem sameInts_n (L : List Nat) (n : Nat) (A B : Option Addr) (c d : Nat) (w : World) (hl : L.length = n) (hn : n ≤ 1000000) (hx : RdI w A L) (hy : RdI w B L) :
    Calls Try.prog 20 #[.slice A n c, .slice B n d] w fun e w' => e = .returned (.bool true) ∧ Chg [] w w' := by
  have hch : Chg [] w w := Chg.refl _ _
  have HL := Lib.hid hl
  clear hl
  have hne : ((n : Int) == (n : Int)) = true := by simp
  go_enter Try.func20, Try.ntmps20
  go_wp2_with fail
  go_loopw [5] (fun iv wr => ∃ k : Nat, k ≤ n ∧ iv = .int .i64 k ∧ RdI wr A L ∧ RdI wr B L ∧ Chg [] w wr) (fun iv _ => n - (intOf iv).toNat)
  case atStart => exact ⟨0, Nat.zero_le _, rfl, hx, hy, hch⟩
  case round =>
    clear hx hy hch
    obtain ⟨k, hk, rfl, hx, hy, hch⟩ := hrel
    by_cases hlt : k < n
    · obtain ⟨g, rfl, _, a0⟩ := hx (by rw [HL.out]; omega)
      obtain ⟨h, rfl, _, d0⟩ := hy (by rw [HL.out]; omega)
      have a1 := a0 k (by rw [HL.out]; exact hlt)
      have d1 := d0 k (by rw [HL.out]; exact hlt)
      obtain ⟨s, HS⟩ := name_it (L.getD k 0)
      rw [HS.out] at a1 d1
      have i1 : (0 : Int) ≤ (k : Int) := by omega
      have i2 : (k : Int) < (n : Int) := by omega
      clear a0 d0
      go_wp2_with fail
      go_quiet (fail)
      go_wp2_with fail
      go_roundw
      case rel => exact ⟨k + 1, by omega, by go_num, hx.keep0 ((Chg.refl [] _).drewN _), hy.keep0 ((Chg.refl [] _).drewN _), hch.drewN _⟩
      case measure => simp [intOf]; omega
    · go_wp2_with fail
      go_ret
      exact ⟨rfl, hch⟩

set_option maxRecDepth 20000 in
set_option maxHeartbeats 1000000 in
theorem sameRows_n (M : List (List Q3)) (n m : Nat) (A B : Option Addr) (c d : Nat) (w : World) (hl : M.length = n) (hr : ∀ i, i < n → (M.getD i []).length = m) (hn : n ≤ 1000000) (hm : m ≤ 1000000) (hx : Mtx w A M) (hy : Mtx w B M) :
    Calls Try.prog 19 #[.slice A n c, .slice B n d] w fun e w' => e = .returned (.bool true) ∧ Chg [] w w' := by
  have hch : Chg [] w w := Chg.refl _ _
  have HL := Lib.hid hl
  have HR := Lib.hid hr
  clear hl hr
  have hne : ((n : Int) == (n : Int)) = true := by simp
  go_enter Try.func19, Try.ntmps19
  go_wp2_with fail
  go_loopw [5] (fun iv wr => ∃ k : Nat, k ≤ n ∧ iv = .int .i64 k ∧ Mtx wr A M ∧ Mtx wr B M ∧ Chg [] w wr) (fun iv _ => n - (intOf iv).toNat)
  case atStart => exact ⟨0, Nat.zero_le _, rfl, hx, hy, hch⟩
  case round =>
    clear hx hy hch
    obtain ⟨k, hk, rfl, hx, hy, hch⟩ := hrel
    by_cases hlt : k < n
    · obtain ⟨g, o, rfl, _⟩ := hx.form (by rw [HL.out]; omega)
      obtain ⟨h, p, rfl, _⟩ := hy.form (by rw [HL.out]; omega)
      obtain ⟨B1, c1', a1, _, _, r1⟩ := hx.row (i := k) (by rw [HL.out]; exact hlt)
      obtain ⟨B2, c2', a2, _, _, r2⟩ := hy.row (i := k) (by rw [HL.out]; exact hlt)
      have hrl := HR.out k hlt
      rw [hrl] at a1 a2
      have HRL := Lib.hid hrl
      have i1 : (0 : Int) ≤ (k : Int) := by omega
      have i2 : (k : Int) < (n : Int) := by omega
      clear hrl
      have c8 : Chg [] wr wr.drew := (Chg.refl _ _).drew
      replace a1 := a1.keep0 c8
      replace a2 := a2.keep0 c8
      replace r1 := r1.keep0 c8
      replace r2 := r2.keep0 c8
      replace hx := hx.keep0 c8
      replace hy := hy.keep0 c8
      replace hch := hch.then c8
      clear c8
      go_wp2_with fail
      go_region_held3 (fun w' => w'.cell? ⟨g, o + k, none⟩ = some (.slice B1 m c1') ∧ w'.cell? ⟨h, p + k, none⟩ = some (.slice B2 m c2')) (first | exact ⟨a1.c, a2.c⟩) (first
          | (go_at_call 44
             (with_reducible refine (sameRats_n (M.getD k []) m B1 B2 c1' c2' _ HRL.out hm r1 r2).mono ?_)
             rintro e w1 ⟨rfl, c1⟩
             replace a1 := a1.keep0 c1
             replace a2 := a2.keep0 c1
             replace r1 := r1.keep0 c1
             replace r2 := r2.keep0 c1
             replace hx := hx.keep0 c1
             replace hy := hy.keep0 c1
             replace hch := hch.then c1
             clear c1
             skip))
      all_goals
        go_wp2_with fail
        go_roundw
        case rel => exact ⟨k + 1, by omega, by go_num, hx, hy, hch⟩
        case measure => simp [intOf]; omega
    · go_wp2_with fail
      go_ret
      exact ⟨rfl, hch⟩

theorem KR_small {m : Nat} (hm : m ≤ 6) : KR 24 m ≤ 4294967296 := by
  have h1 := KR_le 24 hm
  have h2 := KR_pow 24 6
  omega
theorem sameRows_nil (A B : Option Addr) (c d : Nat) (w : World) :
    Calls Try.prog 19 #[.slice A 0 c, .slice B 0 d] w fun e w' => e = .returned (.bool true) ∧ Chg [] w w' :=
  sameRows_n [] 0 0 A B c d w rfl (fun i h => absurd h (by omega)) (by omega) (by omega) (Mtx.nil _ _) (Mtx.nil _ _)
theorem sameInts_nil (A B : Option Addr) (c d : Nat) (w : World) :
    Calls Try.prog 20 #[.slice A 0 c, .slice B 0 d] w fun e w' => e = .returned (.bool true) ∧ Chg [] w w' :=
  sameInts_n [] 0 A B c d w rfl (by omega) (fun h => absurd h (by simp)) (fun h => absurd h (by simp))

end Go.Proofs.Ytpaochhaenehmaa
