/-
  The reference: Floor: what it wants of divide, plus and reduced.
-/
import Derived.Test.YtlhmimbooampdaaGreatDoorGQ
import Derived.Test.YtlhmimbooampdaaGreatDoorR15
import Derived.Test.YtlhmimbooampdaaGreatDoorGH
namespace Go.Proofs.YtlhmimbooampdaaGreatDoor
open Go.RowKit Nd
theorem flo_int {p : Rat} (h : p.den = 1) : flo p = p := by
  have e := sq_self p
  rw [h] at e
  have f := flo_sq (a := decide (p.num < 0)) (n := p.num.natAbs) (d := 1) (k := p.num.natAbs) (by omega) (by simp [Nat.mod_one])
  rw [e] at f
  exact f.symm
theorem mod_den {p : Rat} (h : ¬ p.den = 1) : p.num.natAbs % p.den ≠ 0 := by
  intro hc
  have h1 := Nat.gcd_eq_left (Nat.dvd_of_mod_eq_zero hc)
  rw [gcd_den] at h1
  exact h h1.symm
theorem flo_neg {p : Rat} (h : ¬ p.den = 1) (hn : p.num < 0) : sq true (p.num.natAbs / p.den + 1) 1 = flo p := by
  have f := flo_sq (a := true) (n := p.num.natAbs) (d := p.den) (k := p.num.natAbs / p.den + 1) p.den_nz (by simp [mod_den h])
  have e := sq_self p
  rw [decide_eq_true hn] at e
  rwa [e] at f
theorem flo_pos {p : Rat} (hn : ¬ p.num < 0) : sq false (p.num.natAbs / p.den) 1 = flo p := by
  have f := flo_sq (a := false) (n := p.num.natAbs) (d := p.den) (k := p.num.natAbs / p.den) p.den_nz (by simp)
  have e := sq_self p
  rw [decide_eq_false hn] at e
  rwa [e] at f
theorem dig_one : dig 4294967296 [1] := by intro x hx; simp at hx; omega
theorem noz_one : noz [1] := by simp [noz]
theorem rdivideN (ga ca gb cb : Nat) (A C : List Nat) (w : World) (hA : Row 30 .u32 w ga ca A) (hC : Row 30 .u32 w gb cb C) (dA : dig 4294967296 A) (dC : dig 4294967296 C) (nA : noz A) (nC : noz C)
    (la : A.length ≤ 1099511627775) (hC0 : lv 4294967296 C ≠ 0) :
    Calls Tryz.prog 95 #[.slice (some ⟨ga, 0, none⟩) A.length ca, .slice (some ⟨gb, 0, none⟩) C.length cb] w fun e w' => ∃ qv rv Q R, e = .returned (.tuple #[qv, rv]) ∧ RDiv w w' A C qv rv Q R ∧ Chg [] w w' := by
  refine (rdivide_any ga ca gb cb A C w hA hC dA dC nA nC la (by rintro rfl; exact hC0 rfl)).mono ?_
  rintro e w1 ⟨qv, rv, rfl, Q, R, D⟩
  exact ⟨qv, rv, Q, R, rfl, D, D.chg⟩
set_option maxRecDepth 20000 in
theorem reduced_nil (neg : Bool) (v : Value) (w : World) :
    Calls Tryz.prog 61 #[.bool neg, .slice none 0 0, v] w fun e w' => e = .returned (.agg #[.bool false, .string ⟨#[]⟩, .string ⟨#[]⟩]) ∧ Chg [] w w' := by
  have hch : Chg [] w (w.alloc (.cells #[.bool false, .string ⟨#[]⟩, .string ⟨#[]⟩] 27)) := (Chg.refl _ _).alloc _
  go_enter Tryz.func61, Tryz.ntmps61
  go_wp2_with fail
  exact bodyPost_ret (v := .agg #[.bool false, .string ⟨#[]⟩, .string ⟨#[]⟩]) (by simp [results, Tryz.results61, go_sem]) rfl ⟨rfl, hch⟩

theorem plus_one (ga ca gb cb : Nat) (A : List Nat) (w : World) (hA : Row 30 .u32 w ga ca A) (hC : Row 30 .u32 w gb cb [1]) (dA : dig 4294967296 A) (nA : noz A) (la : A.length ≤ 1099511627774) :
    Calls Tryz.prog 62 #[.slice (some ⟨ga, 0, none⟩) A.length ca, .slice (some ⟨gb, 0, none⟩) 1 cb] w fun e w' => ∃ g c L, e = .returned (.slice (some ⟨g, 0, none⟩) L.length c) ∧
      Row 30 .u32 w' g c L ∧ dig 4294967296 L ∧ noz L ∧ lv 4294967296 L = lv 4294967296 A + 1 ∧ L.length ≤ 1099511627775 ∧ Chg [] w w' := by
  refine (plus_any ga ca gb cb A [1] w hA hC dA dig_one nA noz_one (by omega) (by simp)).mono ?_
  rintro e w1 ⟨v, rfl, L, hs, dL, nL, vL, _, c1⟩
  obtain ⟨g, c, rfl, hr⟩ := hs.row_of (by rintro rfl; simp [lv] at vL)
  have lL := plus_len (n := 1099511627774) nL dA dig_one la (by simp) vL
  exact ⟨g, c, L, rfl, hr, dL, nL, by rw [vL]; rfl, lL, c1⟩

set_option maxRecDepth 20000 in
set_option maxHeartbeats 1000000 in
theorem plus_nil (gb cb : Nat) (w : World) (hC : Row 30 .u32 w gb cb [1]) :
    Calls Tryz.prog 62 #[.slice none 0 0, .slice (some ⟨gb, 0, none⟩) 1 cb] w fun e w' => ∃ g c, e = .returned (.slice (some ⟨g, 0, none⟩) 1 c) ∧ Row 30 .u32 w' g c [1] ∧ Chg [] w w' := by
  obtain ⟨i0, hi, hz0, hz1, hz2⟩ := info_parts Tryz.info32
  go_enter Tryz.func62, Tryz.ntmps62
  go_wp2_with fail
  go_loopw [5, 6, 7] (fun ov cv iv wr => (iv = .int .i64 0 ∧ cv = .int .u64 0 ∧ ov = .slice none 0 0 ∧ Row 30 .u32 wr gb cb [1] ∧ Chg [] w wr) ∨ (∃ g c, iv = .int .i64 1 ∧ cv = .int .u64 0 ∧ ov = .slice (some ⟨g, 0, none⟩) 1 c ∧ Row 30 .u32 wr g c [1] ∧ Chg [] w wr))
    (fun _ _ iv _ => 1 - (intOf iv).toNat)
  case atStart => exact .inl ⟨rfl, rfl, rfl, hC, Chg.refl _ _⟩
  case round =>
    clear hC
    rcases hrel with ⟨rfl, rfl, rfl, hb, hch⟩ | ⟨g, c, rfl, rfl, rfl, hr, hch⟩
    · have hcell := hb.cell 0 (by simp)
      simp only [List.getD_cons_zero, Int.cast_ofNat_Int] at hcell
      go_wp2_with (at_builtin; refine wpList_append_rownil _ rfl (.tmp 46) (.tmp 49) 55 rfl 30 i0 .u32 Tryz.underlying55 hi hz0 hz1 (by rw [hz2]; omega) rfl [1] (by simp) 1 rfl ⟨wr.heap.size, 0, none⟩ 1 rfl (cells_alloc wr _ 30 .u32 [1] (by simp [vals]) (by simp)) (by omega) ?_)
      intro g' cap' w' hr' hg' hch'
      have hch2 : Chg [] w w' := (hch.alloc _).then hch'
      clear hcell hb hch hch'
      go_wp2_with fail
      go_roundw
      case rel => exact .inr ⟨g', cap', rfl, rfl, rfl, hr', hch2⟩
      case measure => simp [intOf]
    · go_wp2_with fail
      go_ret
      exact ⟨g, c, rfl, hr, hch⟩

end Go.Proofs.YtlhmimbooampdaaGreatDoor
