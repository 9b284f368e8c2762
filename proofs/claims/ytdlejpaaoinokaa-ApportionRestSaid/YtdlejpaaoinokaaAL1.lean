/-
  Of law 0: Amounts.
-/
import Derived.Test.YtdlejpaaoinokaaAKB
import Derived.Test.YtdlejpaaoinokaaGZ
namespace Go.Proofs.Ytdlejpaaoinokaa
open Go.RowKit Nd

/-- A list of numbers of 16 bits that can be read. -/
def RdW (w : World) (A : Option Addr) (L : List Int) : Prop := 0 < L.length → ∃ b o, A = some ⟨b, o, none⟩ ∧ b < w.heap.size ∧ ∀ j, j < L.length → w.cell? ⟨b, o + j, none⟩ = some (.int .u16 (L.getD j 0))
theorem RdW.keep0 {w w' : World} {A : Option Addr} {L : List Int} (h : RdW w A L) (hc : Chg [] w w') : RdW w' A L := by
  intro h0
  obtain ⟨b, o, e, hb, h1⟩ := h h0
  exact ⟨b, o, e, Nat.lt_of_lt_of_le hb hc.size, fun j hj => (hc.cell (p := ⟨b, o + j, none⟩) hb (by simp)).trans (h1 j hj)⟩
theorem rds_one (w : World) (z : Q3) : Rds (w.alloc (.cells #[.bool z.neg, .string z.num, .string z.den] 38)) (some ⟨w.heap.size, 0, none⟩) [z] := by
  have b := Blk3.alloc w (.bool z.neg) (.string z.num) (.string z.den) 38
  intro _
  refine ⟨_, 0, rfl, b.lt, fun j hj => ?_⟩
  obtain rfl : j = 0 := by simp at hj; omega
  exact ⟨b.c0, b.c1, b.c2⟩
theorem fsg_pos {a b : Int} (ha : 0 ≤ a) (hb : 0 ≤ b) : fsg a b = false := by
  unfold fsg
  rw [decide_eq_false (by omega), decide_eq_false (by omega)]; rfl
theorem amtQ_nn {x : Int} (_ : 0 ≤ x) : 0 ≤ amtQ x := by
  unfold amtQ
  split
  · rw [fsg_pos (by omega) (by omega)]; exact sq_ge_zero (by omega)
  · split
    · exact_mod_cast (show (0 : Int) ≤ 10 * (x / 5 % 4) by omega)
    · exact_mod_cast (show (0 : Int) ≤ x / 5 % 13 by omega)
/-- Weights that have been built. -/
structure Wts (xs : List Q3) (n : Nat) : Prop where
  len : xs.length = n
  ok : ∀ x ∈ xs, fits x 8
  nn : ∀ x ∈ xs, 0 ≤ ratOf x
theorem Wts.snoc {xs : List Q3} {n : Nat} (h : Wts xs n) {z : Q3} (h1 : fits z 8) (h2 : 0 ≤ ratOf z) : Wts (xs ++ [z]) (n + 1) :=
  ⟨by rw [List.length_append, h.len]; rfl, fun x hx => by
    rcases List.mem_append.1 hx with hx | hx
    · exact h.ok x hx
    · rw [List.mem_singleton.1 hx]; exact h1, fun x hx => by
    rcases List.mem_append.1 hx with hx | hx
    · exact h.nn x hx
    · rw [List.mem_singleton.1 hx]; exact h2⟩

set_option maxRecDepth 20000 in
set_option maxHeartbeats 4000000 in
theorem amounts_any (L : List Int) (l : Nat) (A : Option Addr) (cap : Nat) (w : World) (hl : L.length = l) (hl2 : l ≤ 9223372036854775807) (hL : ∀ x, x ∈ L → 0 ≤ x ∧ x ≤ 65535) (hx : RdW w A L) :
    Calls Try.prog 15 #[.slice A l cap, .int .i64 12] w fun e w' => ∃ v xs, e = .returned v ∧ Own3 w' v xs ∧ Wts xs (min 12 l) ∧ (∀ x, x ∈ v.ownBlock.toList → w.heap.size ≤ x) ∧ Chg [] w w' := by
  have hch : Chg [] w w := Chg.refl _ _
  have HX := Lib.hid hx
  have HL := Lib.hid hl
  have HLL := Lib.hid hL
  clear hx hl hL
  go_enter Try.func15, Try.ntmps15
  go_wp2_with fail
  go_loopw [5, 6] (fun rv iv wx => ∃ (j : Nat) (zs : List Q3), j ≤ 12 ∧ j ≤ l ∧ iv = .int .i64 j ∧ Own3 wx rv zs ∧ Wts zs j ∧ (∀ x, x ∈ rv.ownBlock.toList → w.heap.size ≤ x) ∧ Chg [] w wx) (fun _ iv _ => l - (intOf iv).toNat)
  case atStart => exact ⟨0, [], by omega, Nat.zero_le _, rfl, Own3.nil _, ⟨rfl, fun x hx => (by cases hx), fun x hx => (by cases hx)⟩, by simp [Value.ownBlock], Chg.refl _ _⟩
  case round =>
    clear hch
    obtain ⟨j, zs, hj, hjl, rfl, hzo, hw, hzb, hch⟩ := hrel
    have HW := Lib.hid hw
    have HZB := Lib.hid hzb
    have hzl := hw.len
    have hsz1 := hch.size
    clear hw hzb
    by_cases hfin : j < l ∧ j < 12
    · obtain ⟨hlt, hlt12⟩ := hfin
      have d1 : decide ((j : Int) < (l : Int)) = true := decide_eq_true (by omega)
      have d2 : decide ((j : Int) < (12 : Int)) = true := decide_eq_true (by omega)
      have hx2 := HX.out.keep0 hch
      obtain ⟨gl, ol, rfl, hgl, a0⟩ := hx2 (by rw [HL.out]; omega)
      have a1 := a0 j (by rw [HL.out]; exact hlt)
      have hxin := HLL.out (L.getD j 0) (by
        have hk9 : j < L.length := by rw [HL.out]; exact hlt
        rw [List.getD_eq_getElem?_getD, List.getElem?_eq_getElem hk9]; exact List.getElem_mem hk9)
      obtain ⟨x, HXV⟩ := name_it (L.getD j 0)
      rw [HXV.out] at a1 hxin
      obtain ⟨x1, x2⟩ := hxin
      have k1 : (0 : Int) ≤ (j : Int) := by omega
      have k2 : (j : Int) < (l : Int) := by omega
      clear a0 hx2
      go_wp2_with fail
      refine (amount8_any x _ x1 x2).mono ?_
      rintro e w5 ⟨z, rfl, hz, c5⟩
      have hzf := hz.num.fit
      have hzn : 0 ≤ ratOf z := by rw [hz.num.rat]; exact amtQ_nn x1
      have HW5 := Lib.hid (HW.out.snoc hzf hzn)
      have O2 := (hzo.keep0 c5).keep0 ((Chg.refl [] _).alloc (.cells #[.bool z.neg, .string z.num, .string z.den] 38))
      have HCH := Lib.hid ((hch.then c5).alloc (.cells #[.bool z.neg, .string z.num, .string z.den] 38))
      have src := rds_one w5 z
      clear hz hzf hzn c5 hzo hch
      go_wp2_with (at_builtin; refine wpList_append3 _ rfl (.tmp 18) (.tmp 24) rfl _ zs rfl O2 _ 1 1 [z] rfl rfl src (by rw [hzl]; simp; omega) ?_)
      intro v5 w6 own5 cv5 hv5
      have HZB5 : Hid (∀ x, x ∈ v5.ownBlock.toList → w.heap.size ≤ x) := Lib.hid fun x hx => by
        rcases hv5 with h5 | h5
        · rw [h5] at hx; exact HZB.out x hx
        · rw [h5] at hx; have h7 := HCH.out.size; simp at hx h7; omega
      have hc5 := Lib.hid (HCH.out.trans cv5 (fun x hx => .inr (HZB.out x hx)))
      clear hv5 cv5
      go_wp2_with fail
      go_roundw
      case rel => exact ⟨j + 1, _, by omega, by omega, by go_num, own5, HW5.out, HZB5.out, hc5.out⟩
      case measure => simp [intOf]; omega
    · have hend : j = min 12 l := by omega
      have HW5 : Hid (Wts zs (min 12 l)) := Lib.hid (by rw [← hend]; exact HW.out)
      clear hend
      by_cases hlt : j < l
      · have d1 : decide ((j : Int) < (l : Int)) = true := decide_eq_true (by omega)
        have d2 : decide ((j : Int) < (12 : Int)) = false := decide_eq_false (by omega)
        go_wp2_with fail
        go_ret
        exact ⟨_, zs, rfl, hzo, HW5.out, HZB.out, hch⟩
      · have d1 : decide ((j : Int) < (l : Int)) = false := decide_eq_false (by omega)
        go_wp2_with fail
        go_ret
        exact ⟨_, zs, rfl, hzo, HW5.out, HZB.out, hch⟩
end Go.Proofs.Ytdlejpaaoinokaa
