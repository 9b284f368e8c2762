/-
  Currency: codes and days on both sides.
-/
import Derived.Test.YtogciehmdlfkfaaGreatDoorKS
import Derived.Test.YtogciehmdlfkfaaGreatDoorGS
import Derived.BigQuiet
namespace Go.Proofs.YtogciehmdlfkfaaGreatDoor
open Go.RowKit Nd

theorem Blk3.keep0 {w w' : World} {g : Nat} {a b c : Value} (h : Blk3 w g a b c) (hc : Chg [] w w') : Blk3 w' g a b c := h.keep hc (by simp)
/-- Whether a byte is a letter A to Z. -/
def let1 (b : Nat) : Bool := decide (65 ≤ b) && decide (b ≤ 90)
/-- Byte j of a string. -/
def byt (s : ByteArray) (j : Nat) : Nat := (s.data.toList.getD j 0).toNat
/-- Whether a string is a code. -/
def codeB (s : ByteArray) : Bool := decide (s.size = 3) && decide (∀ j, j < s.size → let1 (byt s j) = true)
theorem byt_at (s : ByteArray) (i : Nat) (h : i < s.size) : s[i].toNat = byt s i := by
  unfold byt
  have h2 : i < s.data.toList.length := by simpa using h
  rw [List.getD_eq_getElem?_getD, List.getElem?_eq_getElem h2, Option.getD_some]; rfl
theorem code_bad {s : ByteArray} {i : Nat} (h : i < s.size) (h2 : let1 (byt s i) = false) : codeB s = false := by
  unfold codeB
  rw [Bool.and_eq_false_iff]
  refine .inr (decide_eq_false fun h3 => ?_)
  rw [h3 i h] at h2; cases h2
theorem code_all {s : ByteArray} (h : ∀ j, j < s.size → let1 (byt s j) = true) : codeB s = decide (s.size = 3) := by
  unfold codeB
  rw [decide_eq_true h, Bool.and_true]
theorem idx_str (s : ByteArray) (i c : Nat) (h : i < s.size) (hc : byt s i = c) (W : World) : (Instr.index 9 (.string s) (.int .i64 (i : Int))).run Tryz.prog W = .ok (.int .u8 (c : Int)) W := by
  rw [run_index_string W 9 s .i64 _ Tryz.underlying9, dif_pos (by omega)]
  have : ((i : Int)).toNat = i := by omega
  simp only [this]
  rw [byt_at s i h, hc]
theorem byt_lt (s : ByteArray) (i : Nat) : byt s i < 256 := UInt8.toNat_lt _

set_option maxRecDepth 20000 in
set_option maxHeartbeats 1000000 in
theorem rIsCode_any (s : ByteArray) (w : World) (hs : s.size ≤ 1000000) :
    Calls Tryz.prog 34 #[.string s] w fun e w' => e = .returned (.bool (codeB s)) ∧ w' = w := by
  obtain ⟨b, HB⟩ := name_it (codeB s)
  rw [HB.out]
  have HS := Lib.hid hs
  clear hs
  go_enter Tryz.func34, Tryz.ntmps34
  go_wp2
  go_loopw [3] (fun iv wr => ∃ i : Nat, i ≤ s.size ∧ iv = .int .i64 i ∧ (∀ j, j < i → let1 (byt s j) = true) ∧ wr = w) (fun iv _ => s.size - (intOf iv).toNat)
  case atStart => exact ⟨0, by omega, rfl, fun j hj => absurd hj (by omega), rfl⟩
  case round =>
    obtain ⟨i, hi, rfl, hl, rfl⟩ := hrel
    have HL := Lib.hid hl
    clear hl
    have hs := HS.out
    by_cases hlt : i < s.size
    · obtain ⟨c, HC⟩ := name_it (byt s i)
      have hc256 := byt_lt s i
      rw [HC.out] at hc256
      have hix := idx_str s i c (by omega) HC.out
      by_cases h65 : c < 65
      · have hr : b = false := by rw [← HB.out]; exact code_bad (i := i) (by omega) (by rw [HC.out]; simp [let1]; omega)
        subst hr
        have d1 : decide ((c : Int) < 65) = true := decide_eq_true (by omega)
        go_wp2
        go_ret
        exact ⟨rfl, rfl⟩
      · have d1 : decide ((c : Int) < 65) = false := decide_eq_false (by omega)
        by_cases h90 : 90 < c
        · have hr : b = false := by rw [← HB.out]; exact code_bad (i := i) (by omega) (by rw [HC.out]; simp [let1]; omega)
          subst hr
          have d2 : decide (90 < (c : Int)) = true := decide_eq_true (by omega)
          go_wp2
          go_ret
          exact ⟨rfl, rfl⟩
        · have d2 : decide (90 < (c : Int)) = false := decide_eq_false (by omega)
          have HN : Hid (∀ j, j < i + 1 → let1 (byt s j) = true) := Lib.hid fun j hj => by
            by_cases e : j = i
            · rw [e, HC.out]; simp [let1]; omega
            · exact HL.out j (by omega)
          go_wp2
          go_roundw
          case rel => exact ⟨i + 1, by omega, by go_num, HN.out, by first | rfl | trivial⟩
          case measure => simp [intOf]; omega
    · have hr : b = decide (s.size = 3) := by rw [← HB.out, code_all (fun j hj => HL.out j (by omega))]
      by_cases h3 : s.size = 3
      · rw [decide_eq_true h3] at hr
        subst hr
        have d1 : ((s.size : Int) == 3) = true := by simp; omega
        go_wp2
        go_ret
        exact ⟨rfl, rfl⟩
      · rw [decide_eq_false h3] at hr
        subst hr
        have d1 : ((s.size : Int) == 3) = false := by simp; omega
        go_wp2
        go_ret
        exact ⟨rfl, rfl⟩

/-- Whether an int is a day. -/
def isd (d : Int) : Bool := decide (0 ≤ d ∧ d ≤ 1048576)
theorem isd_yes {d : Int} (h : isd d = true) : 0 ≤ d ∧ d ≤ 1048576 := of_decide_eq_true h
theorem isd_no {d : Int} (h : isd d = false) : d < 0 ∨ 1048576 < d := by
  have := of_decide_eq_false h; omega
theorem isd_of {d : Int} (h : 0 ≤ d) (h2 : d ≤ 1048576) : isd d = true := decide_eq_true ⟨h, h2⟩
set_option maxRecDepth 20000 in
theorem rIsDay_any (d : Int) (w : World) (b : Bool) (h : isd d = b) :
    Calls Tryz.prog 36 #[.int .i64 d] w fun e w' => e = .returned (.bool b) ∧ w' = w := by
  cases b with
  | true =>
    obtain ⟨h, h2⟩ := isd_yes h
    go_enter Tryz.func36, Tryz.ntmps36
    go_wp2
    go_ret
    exact ⟨rfl, rfl⟩
  | false =>
    rcases isd_no h with h | h
    · have d1 : decide (0 ≤ d) = false := by simp; omega
      go_enter Tryz.func36, Tryz.ntmps36
      go_wp2
      go_ret
      exact ⟨rfl, rfl⟩
    · have d1 : decide (d ≤ 1048576) = false := by simp; omega
      have d0 : decide (0 ≤ d) = true := by simp; omega
      go_enter Tryz.func36, Tryz.ntmps36
      go_wp2
      go_ret
      exact ⟨rfl, rfl⟩
end Go.Proofs.YtogciehmdlfkfaaGreatDoor
