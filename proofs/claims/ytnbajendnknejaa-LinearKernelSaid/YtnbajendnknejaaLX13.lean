/-
  The reference's Fixed.
-/
import Derived.Test.YtnbajendnknejaaLX12
import Derived.Test.YtnbajendnknejaaGQ
namespace Go.Proofs.Ytnbajendnknejaa
open Go.RowKit Nd
theorem nums_snoc {P : Nat → Q3 → Prop} {zs : List Q3} {i : Nat} {z : Q3} (hl : zs.length = i) (h : ∀ t, t < i → P t (zs.getD t q0)) (hz : P i z) : ∀ t, t < i + 1 → P t ((zs ++ [z]).getD t q0) := by
  intro t ht
  by_cases he : t = i
  · subst he; rw [List.getD_eq_getElem?_getD, List.getElem?_append_right (by omega)]; simpa [hl] using hz
  · have := h t (by omega)
    rw [List.getD_eq_getElem?_getD] at this ⊢
    rwa [List.getElem?_append_left (by omega)]
theorem rds_one (w : World) (z : Q3) : Rds (w.alloc (.cells #[.bool z.neg, .string z.num, .string z.den] 49)) (some ⟨w.heap.size, 0, none⟩) [z] := by
  have b := Blk3.alloc w (.bool z.neg) (.string z.num) (.string z.den) 49
  intro _
  refine ⟨_, 0, rfl, b.lt, fun j hj => ?_⟩
  obtain rfl : j = 0 := by simp at hj; omega
  exact ⟨b.c0, b.c1, b.c2⟩

set_option maxRecDepth 20000 in
set_option maxHeartbeats 2000000 in
theorem rFixed_any (xs : List Q3) (A : Option Addr) (m cap k : Nat) (w : World) (hl : xs.length = m) (hm : m ≤ 1000000) (hk : 1 ≤ k) (hk2 : k ≤ 4294967296) (hf : ∀ j, j < m → fits (xs.getD j q0) k) (hx : Rds w A xs) :
    Calls Try.prog 63 #[.slice A m cap] w fun e w' => ∃ v zs, e = .returned v ∧ Own3 w' v zs ∧ (0 < m → ∃ g c, v = .slice (some ⟨g, 0, none⟩) m c ∧ w.heap.size ≤ g) ∧ Row1 zs (fun j => ratOf (xs.getD j q0)) m k ∧ Chg [] w w' := by
  have HX := Lib.hid hx
  have HF := Lib.hid hf
  have HL := Lib.hid hl
  have hch : Chg [] w w := Chg.refl _ _
  clear hx hf hl
  go_enter Try.func63, Try.ntmps63
  go_wp2_with fail
  go_loopw [3, 4] (fun sv iv wr => ∃ (i : Nat) (zs : List Q3), i ≤ m ∧ iv = .int .i64 i ∧ zs.length = i ∧ Own3 wr sv zs ∧ (∀ j, j < i → Val (zs.getD j q0) (ratOf (xs.getD j q0)) k) ∧ (∀ x, x ∈ sv.ownBlock.toList → w.heap.size ≤ x) ∧ Chg [] w wr) (fun _ iv _ => m - (intOf iv).toNat)
  case atStart => exact ⟨0, [], Nat.zero_le _, rfl, rfl, Own3.nil _, fun j h => absurd h (by omega), by simp [Value.ownBlock], hch⟩
  case round =>
    clear hch
    obtain ⟨i, zs, hi, rfl, hlz, hown, hval, hblk, hch⟩ := hrel
    have HVAL := Lib.hid hval
    have HBK := Lib.hid hblk
    have HOW := Lib.hid hown
    clear hval hblk hown
    by_cases hlt : i < m
    · obtain ⟨g, o, rfl, _⟩ := HX.out.form (by rw [HL.out]; omega)
      have e1 := (HX.out.keep0 hch).el (j := i) (by rw [HL.out]; exact hlt)
      have f1 := HF.out i hlt
      obtain ⟨x, HXX⟩ := name_it (xs.getD i q0)
      rw [HXX.out] at e1 f1
      have nx : Num x (ratOf x) k := ⟨rfl, f1, hk⟩
      obtain ⟨p, HP⟩ := name_it (ratOf x)
      rw [HP.out] at nx
      have x0 := e1.a
      have x1 := e1.b
      have x2 := e1.c
      have ex := e1
      have i1 : (0 : Int) ≤ (i : Int) := by omega
      have i2 : (i : Int) < (m : Int) := by omega
      clear e1 f1 hi
      go_wp2_with fail
      refine (rFixN x p k _ nx (by omega)).mono ?_
      rintro e w9 ⟨z, rfl, hzv, c1⟩
      have own := HOW.out.keep0 c1
      replace hch := hch.then c1
      clear c1 x0 x1 x2 ex
      have HNX := Lib.hid (nums_snoc (P := fun t z => Val z (ratOf (xs.getD t q0)) k) (z := z) hlz HVAL.out (by rw [HXX.out, HP.out]; exact hzv))
      go_wp2_with (at_builtin; refine wpList_append3 _ rfl (.tmp 11) (.tmp 17) rfl _ zs rfl (own.keep0 ((Chg.refl [] _).alloc _)) _ 1 1 [z] rfl rfl (rds_one _ z) (by simp; omega) ?_)
      intro v1 w4 own1 cv1 hv1
      have h9 := hch.size
      have HB1 : Hid (∀ x, x ∈ v1.ownBlock.toList → w.heap.size ≤ x) := by
        show ∀ _, _
        intro y hy
        rcases hv1 with h | h
        · rw [h] at hy; exact HBK.out y hy
        · rw [h] at hy; simp at hy; omega
      have hch4 := Lib.hid ((hch.alloc _).trans cv1 (fun y hy => .inr (HBK.out y hy)))
      clear hch cv1 hv1
      go_wp2_with fail
      go_roundw
      case rel => exact ⟨i + 1, zs ++ [z], by omega, by go_num, by simp [hlz], own1, HNX.out, HB1.out, hch4.out⟩
      case measure => simp [intOf]; omega
    · obtain rfl : i = m := by omega
      go_wp2_with fail
      go_ret
      refine ⟨u3, zs, rfl, HOW.out, fun h => ?_, ⟨hlz, HVAL.out⟩, hch⟩
      · rcases HOW.out.form with ⟨_, h2⟩ | ⟨g, c, h2, _⟩
        · subst h2; simp at hlz; omega
        · exact ⟨g, c, by rw [h2, hlz], HBK.out g (by rw [h2]; simp [Value.ownBlock])⟩

end Go.Proofs.Ytnbajendnknejaa
