/-
  Currency: the law CurrencyMany; code.
-/
import Derived.Test.YtkdcffcgedhllaaKL1
namespace Go.Proofs.Ytkdcffcgedhllaa
open Go.RowKit Nd

/-- The quotes of CurrencyMany. -/
def mny (m : Nat) : List Qt := (List.range m).map fun j : Nat => ⟨usd, (j : Int), q1⟩
theorem mny_length (m : Nat) : (mny m).length = m := by simp [mny]
theorem mny_succ (m : Nat) : mny (m + 1) = mny m ++ [⟨usd, m, q1⟩] := by simp [mny, List.range_succ]
theorem mny_get {m j : Nat} (h : j < m) : (mny m).getD j qt0 = ⟨usd, j, q1⟩ := by
  unfold mny; rw [List.getD_eq_getElem?_getD, List.getElem?_map, List.getElem?_range h]; rfl
theorem mny_mem {m : Nat} {q : Qt} (h : q ∈ mny m) : ∃ j, j < m ∧ q = ⟨usd, j, q1⟩ := by
  obtain ⟨j, hj, rfl⟩ := List.mem_map.1 h
  exact ⟨j, List.mem_range.1 hj, rfl⟩
theorem q1_rat : ratOf q1 = 1 := Val_one.num.rat
theorem mny_good {m : Nat} (h : m ≤ 256) : GoodQ (mny m) := by
  refine ⟨by rw [mny_length]; exact h, ?_, ?_, ?_, ?_⟩
  · intro q hq; obtain ⟨j, hj, rfl⟩ := mny_mem hq; exact usd_ok
  · intro q hq; obtain ⟨j, hj, rfl⟩ := mny_mem hq; exact isd_of (by simp) (show (j : Int) ≤ 1048576 by omega)
  · intro q hq; obtain ⟨j, hj, rfl⟩ := mny_mem hq; show 0 < ratOf q1; rw [q1_rat]; decide
  · intro i j hi hj _ h
    rw [mny_length] at hi hj
    rw [mny_get hi, mny_get hj] at h
    exact Int.natCast_inj.1 h
theorem mny_fit (m : Nat) : FitQ (mny m) 1 := ⟨by omega, by omega, fun q hq => by obtain ⟨j, hj, rfl⟩ := mny_mem hq; exact Val_one.num.fit, fun q hq => by obtain ⟨j, hj, rfl⟩ := mny_mem hq; exact usd_size⟩

set_option maxRecDepth 20000 in
set_option maxHeartbeats 4000000 in
theorem lqmany_any (n : Int) (w : World) (hn : 0 ≤ n ∧ n ≤ 65535) :
    Calls Try.prog 4 #[.int .u16 n] w fun e w' => e = .returned (.bool true) ∧ Chg [] w w' := by
  obtain ⟨n1, n2⟩ := hn
  have hch : Chg [] w w := Chg.refl _ _
  obtain ⟨m, Hm⟩ : ∃ m : Nat, Hid (n % 286 = (m : Int)) := ⟨(n % 286).toNat, Lib.hid (by omega)⟩
  have m1 : m < 286 := by have := Hm.out; omega
  have f1 : n % 286 = (m : Int) := Hm.out
  have f2 : n.tmod 286 = (m : Int) := by rw [Int.tmod_eq_emod_of_nonneg n1]; exact Hm.out
  have HONE : Hid (∀ w, Calls Try.prog 14 #[.int .i64 1] w fun e w' => e = .returned (.agg #[.bool q1.neg, .string q1.num, .string q1.den]) ∧ Chg [] w w') := Lib.hid fun w => by
    refine (Int_any 1 w (by omega) (by omega)).mono ?_
    rintro e w1 ⟨z, rfl, hz, c1⟩
    obtain rfl : z = q1 := hz.unique Val_one.enc
    exact ⟨rfl, c1⟩
  go_enter Try.func4, Try.ntmps4
  go_wp2_with fail
  go_loopw [3, 4] (fun ov iv wr => ∃ i : Nat, i ≤ m ∧ iv = .int .i64 i ∧ OwnQt wr ov (mny i) ∧ (∀ x ∈ ov.ownBlock.toList, w.heap.size ≤ x) ∧ Chg [] w wr) (fun _ iv _ => m - (intOf iv).toNat)
  case atStart => exact ⟨0, Nat.zero_le _, rfl, (by exact OwnQt.nil _), (by simp [Value.ownBlock]), hch⟩
  case round =>
    clear hch
    obtain ⟨i, hi, rfl, hown, hblk, hch⟩ := hrel
    have HBK := Lib.hid hblk
    have HOWN := Lib.hid hown
    clear hblk hown
    by_cases hlt : i < m
    · go_wp2_with (first
        | (go_at_call 14; (with_reducible refine (HONE.out _).mono ?_); rintro e w1 ⟨rfl, c1⟩; have HO1 := Lib.hid (HOWN.out.keep0 c1); have hsz := c1.size; have hch2 := hch.then c1; clear c1)
        | (at_builtin; refine wpList_appendQt _ rfl (.tmp 13) (.tmp 17) rfl u3 (mny i) rfl (HO1.out.keep0 ((Chg.refl [] _).alloc _)) _ 1 ⟨usd, i, q1⟩ rfl (sQt_new _ ⟨usd, i, q1⟩) (by rw [mny_length]; omega) ?_; intro v5 w5 own5 cv5 hv5)
        | fail)
      have hsw := hch.size
      have HB5 : Hid (∀ x ∈ v5.ownBlock.toList, w.heap.size ≤ x) := Lib.hid fun x hx => by
        rcases hv5 with h5 | h5
        · rw [h5] at hx; exact HBK.out x hx
        · rw [h5] at hx; simp at hx; omega
      rw [← mny_succ] at own5
      have hch5 := (hch2.alloc _).trans cv5 (fun x hx => .inr (HBK.out x hx))
      have HO5 := Lib.hid own5
      clear cv5 hv5 own5 hch2 hsz
      go_wp2_with fail
      go_roundw
      case rel => exact ⟨i + 1, by omega, by go_num, HO5.out, HB5.out, hch5⟩
      case measure => simp [intOf]; omega
    · obtain rfl : i = m := by omega
      obtain ⟨A, cap, hv, h1, h2, hs⟩ := HOWN.out.rds
      rw [mny_length] at hv h1
      subst hv
      clear HBK HOWN
      have HCK := Lib.hid (fun w h => qcheck_any (mny i) i 1 A cap w (mny_length i) (by omega) h1 h2 (mny_fit i) h)
      by_cases h256 : 256 < i
      · have hc : chkQ (mny i) = 2 := by unfold chkQ; rw [mny_length, if_pos h256]
        rw [hc] at HCK
        have d1 : decide ((256 : Int) < (i : Int)) = true := decide_eq_true (by omega)
        clear hc h1 h2
        go_wp2_with (first
          | (go_at_call 11; (with_reducible refine (awake7_any _).mono ?_); rintro e w2 ⟨rfl, c2⟩; have hch2 := hch.then c2; have hs2 := hs.keep0 c2; clear c2)
          | (go_at_call 12; (with_reducible refine (HCK.out _ hs2).mono ?_); rintro e w3 ⟨rfl, c2⟩; have hch3 := hch2.then c2; clear c2)
          | fail)
        go_ret
        exact ⟨by simp, hch3⟩
      · have hc : chkQ (mny i) = 0 := good_chk (mny_good (by omega))
        rw [hc] at HCK
        have d1 : decide ((256 : Int) < (i : Int)) = false := decide_eq_false (by omega)
        clear hc h1 h2
        go_wp2_with (first
          | (go_at_call 11; (with_reducible refine (awake7_any _).mono ?_); rintro e w2 ⟨rfl, c2⟩; have hch2 := hch.then c2; have hs2 := hs.keep0 c2; clear c2)
          | (go_at_call 12; (with_reducible refine (HCK.out _ hs2).mono ?_); rintro e w3 ⟨rfl, c2⟩; have hch3 := hch2.then c2; clear c2)
          | fail)
        go_ret
        exact ⟨by simp, hch3⟩

/-- The currency of a number. -/
def codeQ (x : Int) : ByteArray := if x % 4 = 0 then eur else if x % 4 = 1 then usd else if x % 4 = 2 then gbp else jpy
set_option maxRecDepth 20000 in
set_option maxHeartbeats 1000000 in
theorem code_any (x : Int) (w : World) (h1 : 0 ≤ x) (_ : x ≤ 255) :
    Calls Try.prog 21 #[.int .u8 x] w fun e w' => e = .returned (.string (codeQ x)) ∧ Chg [] w w' := by
  have hch : Chg [] w w := Chg.refl _ _
  obtain ⟨r, HR⟩ := name_it (codeQ x)
  rw [HR.out]
  rcases (by omega : x % 4 = 0 ∨ x % 4 = 1 ∨ x % 4 = 2 ∨ x % 4 = 3) with h | h | h | h
  · have f2 : x.tmod 4 = 0 := (Int.tmod_eq_emod_of_nonneg h1).trans h
    obtain rfl : r = eur := by rw [← HR.out]; unfold codeQ; rw [h]; rfl
    clear HR
    go_enter Try.func21, Try.ntmps21
    go_wp2_with fail
    go_ret
    exact ⟨rfl, hch.alloc _⟩
  · have f2 : x.tmod 4 = 1 := (Int.tmod_eq_emod_of_nonneg h1).trans h
    obtain rfl : r = usd := by rw [← HR.out]; unfold codeQ; rw [h]; rfl
    clear HR
    go_enter Try.func21, Try.ntmps21
    go_wp2_with fail
    go_ret
    exact ⟨rfl, hch.alloc _⟩
  · have f2 : x.tmod 4 = 2 := (Int.tmod_eq_emod_of_nonneg h1).trans h
    obtain rfl : r = gbp := by rw [← HR.out]; unfold codeQ; rw [h]; rfl
    clear HR
    go_enter Try.func21, Try.ntmps21
    go_wp2_with fail
    go_ret
    exact ⟨rfl, hch.alloc _⟩
  · have f2 : x.tmod 4 = 3 := (Int.tmod_eq_emod_of_nonneg h1).trans h
    obtain rfl : r = jpy := by rw [← HR.out]; unfold codeQ; rw [h]; rfl
    clear HR
    go_enter Try.func21, Try.ntmps21
    go_wp2_with fail
    go_ret
    exact ⟨rfl, hch.alloc _⟩
end Go.Proofs.Ytkdcffcgedhllaa
