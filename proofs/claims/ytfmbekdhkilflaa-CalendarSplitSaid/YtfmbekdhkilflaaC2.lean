/-
  Business days: slices of int in memory; Weekday, isDay, isWeekday, number, numbered; the reference's Weekday, IsDay.
-/
import Derived.Test.YtfmbekdhkilflaaCB
import Derived.Test.YtfmbekdhkilflaaC1
namespace Go.Proofs.Ytfmbekdhkilflaa
open Go.RowKit

/-- An int of Go. -/
def I64 (d : Int) : Prop := -9223372036854775808 ≤ d ∧ d ≤ 9223372036854775807
/-- A list of ints that can be read. -/
def RdZ (w : World) (A : Option Addr) (L : List Int) : Prop := 0 < L.length → ∃ b o, A = some ⟨b, o, none⟩ ∧ b < w.heap.size ∧ ∀ j, j < L.length → w.cell? ⟨b, o + j, none⟩ = some (.int .i64 (L.getD j 0))
theorem RdZ.keep0 {w w' : World} {A : Option Addr} {L : List Int} (h : RdZ w A L) (hc : Chg [] w w') : RdZ w' A L := by
  intro h0
  obtain ⟨b, o, e, hb, h1⟩ := h h0
  exact ⟨b, o, e, Nat.lt_of_lt_of_le hb hc.size, fun j hj => (hc.cell (p := ⟨b, o + j, none⟩) hb (by simp)).trans (h1 j hj)⟩

theorem ret_int {k : IntKind} {a b : Int} (h : a = b) : Ending.returned (.int k a) = .returned (.int k b) := by rw [h]
theorem tmod_neg {d : Int} (h : d < 0) : d.tmod 7 = -((-d) % 7) := by
  have e : d = -(-d) := by omega
  rw [e, Int.neg_tmod, Int.tmod_eq_emod_of_nonneg (by omega)]
  simp

set_option maxRecDepth 20000 in
set_option maxHeartbeats 400000 in
theorem weekday_any (d : Int) (w : World) (h : I64 d) :
    Calls Try.prog 12 #[.int .i64 d] w fun e w' => e = .returned (.int .i64 (d % 7)) ∧ w' = w := by
  obtain ⟨h1, h2⟩ := h
  by_cases h0 : 0 ≤ d
  · go_enter Try.func12, Try.ntmps12
    go_wp2
    go_ret
    exact ⟨ret_int (by omega), rfl⟩
  · have e := tmod_neg (d := d) (by omega)
    obtain ⟨t, HT⟩ := name_it (d.tmod 7)
    have hb : -6 ≤ t ∧ t ≤ 0 ∧ t = -((-d) % 7) := by rw [← HT.out, e]; omega
    obtain ⟨b1, b2, b3⟩ := hb
    have HB := Lib.hid b3
    clear b3 e
    go_enter Try.func12, Try.ntmps12
    go_wp2_with fail
    rw [HT.out]
    go_wp2
    go_ret
    exact ⟨ret_int (by
      have e1 : RowKit.wrap64 (t + 7) = t + 7 := by unfold RowKit.wrap64; omega
      rw [e1, Int.tmod_eq_emod_of_nonneg (by omega)]
      have := HB.out
      omega), rfl⟩

set_option maxRecDepth 20000 in
set_option maxHeartbeats 400000 in
theorem rweekday_any (d : Int) (w : World) (h : I64 d) :
    Calls Try.prog 14 #[.int .i64 d] w fun e w' => e = .returned (.int .i64 (d % 7)) ∧ w' = w := by
  obtain ⟨h1, h2⟩ := h
  by_cases h0 : 0 ≤ d
  · have d1 : decide (d % 7 < 0) = false := by simp; omega
    go_enter Try.func14, Try.ntmps14
    go_wp2
    all_goals first
      | (go_ret; exact ⟨ret_int (by omega), rfl⟩)
  · have e := tmod_neg (d := d) (by omega)
    obtain ⟨t, HT⟩ := name_it (d.tmod 7)
    have hb : -6 ≤ t ∧ t ≤ 0 ∧ t = -((-d) % 7) := by rw [← HT.out, e]; omega
    obtain ⟨b1, b2, b3⟩ := hb
    have HB := Lib.hid b3
    clear b3 e
    by_cases hn : t < 0
    · have d1 : decide (d.tmod 7 < 0) = true := by rw [HT.out]; simp; omega
      go_enter Try.func14, Try.ntmps14
      go_wp2
      go_ret
      exact ⟨ret_int (by
        rw [HT.out]
        have e1 : RowKit.wrap64 (t + 7) = t + 7 := by unfold RowKit.wrap64; omega
        rw [e1]
        have := HB.out
        omega), rfl⟩
    · have d1 : decide (d.tmod 7 < 0) = false := by rw [HT.out]; simp; omega
      go_enter Try.func14, Try.ntmps14
      go_wp2
      go_ret
      exact ⟨ret_int (by
        rw [HT.out]
        have := HB.out
        omega), rfl⟩

set_option maxRecDepth 20000 in
theorem isDay_yes (d : Int) (w : World) (h : 0 ≤ d) (h2 : d ≤ 1048576) :
    Calls Try.prog 26 #[.int .i64 d] w fun e w' => e = .returned (.bool true) ∧ w' = w := by
  go_enter Try.func26, Try.ntmps26
  go_wp2
  go_ret
  exact ⟨rfl, rfl⟩
set_option maxRecDepth 20000 in
theorem isDay_no (d : Int) (w : World) (h : d < 0 ∨ 1048576 < d) :
    Calls Try.prog 26 #[.int .i64 d] w fun e w' => e = .returned (.bool false) ∧ w' = w := by
  rcases h with h | h
  · have d1 : decide (0 ≤ d) = false := by simp; omega
    go_enter Try.func26, Try.ntmps26
    go_wp2
    go_ret
    exact ⟨rfl, rfl⟩
  · have d1 : decide (d ≤ 1048576) = false := by simp; omega
    have d0 : decide (0 ≤ d) = true := by simp; omega
    go_enter Try.func26, Try.ntmps26
    go_wp2
    go_ret
    exact ⟨rfl, rfl⟩
/-- Whether an int is a day. -/
def isd (d : Int) : Bool := decide (0 ≤ d ∧ d ≤ 1048576)
theorem isd_yes {d : Int} (h : isd d = true) : 0 ≤ d ∧ d ≤ 1048576 := of_decide_eq_true h
theorem isd_no {d : Int} (h : isd d = false) : d < 0 ∨ 1048576 < d := by
  have := of_decide_eq_false h; omega
theorem isDay_any (d : Int) (w : World) (b : Bool) (h : isd d = b) :
    Calls Try.prog 26 #[.int .i64 d] w fun e w' => e = .returned (.bool b) ∧ w' = w := by
  cases b with
  | true => exact isDay_yes d w (isd_yes h).1 (isd_yes h).2
  | false => exact isDay_no d w (isd_no h)
set_option maxRecDepth 20000 in
theorem rIsDay_yes (d : Int) (w : World) (h : 0 ≤ d) (h2 : d ≤ 1048576) :
    Calls Try.prog 22 #[.int .i64 d] w fun e w' => e = .returned (.bool true) ∧ w' = w := by
  go_enter Try.func22, Try.ntmps22
  go_wp2
  go_ret
  exact ⟨rfl, rfl⟩
set_option maxRecDepth 20000 in
theorem rIsDay_no (d : Int) (w : World) (h : d < 0 ∨ 1048576 < d) :
    Calls Try.prog 22 #[.int .i64 d] w fun e w' => e = .returned (.bool false) ∧ w' = w := by
  rcases h with h | h
  · have d1 : decide (0 ≤ d) = false := by simp; omega
    go_enter Try.func22, Try.ntmps22
    go_wp2
    go_ret
    exact ⟨rfl, rfl⟩
  · have d1 : decide (d ≤ 1048576) = false := by simp; omega
    have d0 : decide (0 ≤ d) = true := by simp; omega
    go_enter Try.func22, Try.ntmps22
    go_wp2
    go_ret
    exact ⟨rfl, rfl⟩
theorem rIsDay_any (d : Int) (w : World) (b : Bool) (h : isd d = b) :
    Calls Try.prog 22 #[.int .i64 d] w fun e w' => e = .returned (.bool b) ∧ w' = w := by
  cases b with
  | true => exact rIsDay_yes d w (isd_yes h).1 (isd_yes h).2
  | false => exact rIsDay_no d w (isd_no h)

set_option maxRecDepth 20000 in
theorem isWeekday_any (d : Int) (w : World) (b : Bool) (hd : I64 d) (h : wkd d = b) :
    Calls Try.prog 27 #[.int .i64 d] w fun e w' => e = .returned (.bool b) ∧ w' = w := by
  have H := Lib.hid h
  have HD := Lib.hid hd
  clear h hd
  go_enter Try.func27, Try.ntmps27
  go_wp2_with (go_at_call 12; refine (weekday_any _ _ HD.out).mono ?_; rintro e w' ⟨rfl, rfl⟩)
  go_ret
  exact ⟨by rw [← H.out]; rfl, rfl⟩

set_option maxRecDepth 20000 in
theorem number_any (d : Int) (w : World) (h : 0 ≤ d) (h2 : d ≤ 1099511627776) :
    Calls Try.prog 31 #[.int .i64 d] w fun e w' => e = .returned (.int .i64 (num d)) ∧ w' = w := by
  go_enter Try.func31, Try.ntmps31
  go_wp2
  go_ret
  exact ⟨ret_int (by unfold num; omega), rfl⟩
set_option maxRecDepth 20000 in
theorem numbered_any (d : Int) (w : World) (h : 0 ≤ d) (h2 : d ≤ 1099511627776) :
    Calls Try.prog 34 #[.int .i64 d] w fun e w' => e = .returned (.int .i64 (numd d)) ∧ w' = w := by
  go_enter Try.func34, Try.ntmps34
  go_wp2
  go_ret
  exact ⟨ret_int (by unfold numd; omega), rfl⟩

end Go.Proofs.Ytfmbekdhkilflaa
