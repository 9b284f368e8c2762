/-
  Law: Decimal.
-/
import Derived.Test.YtbhcchpkpclghaaGreatDoorLA1
import Derived.Test.YtbhcchpkpclghaaGreatDoorV16
namespace Go.Proofs.YtbhcchpkpclghaaGreatDoor
open Go.RowKit Nd
theorem list_eq2 {a b : ByteArray} (h : a.data.toList = b.data.toList) : a = b := by
  cases a; cases b; congr; exact Array.toList_inj.1 h

set_option maxRecDepth 20000 in
set_option maxHeartbeats 2000000 in
theorem ldecimal_any (x : Q3) (n : Int) (w : World) (h1 : -9223372036854775808 ≤ n) (h2 : n ≤ 9223372036854775807) :
    Calls Tryz.prog 3 #[.agg #[.bool x.neg, .string x.num, .string x.den], .int .i64 n] w fun e w' => e = .returned (.bool true) ∧ Chg [] w w' := by
  have hch : Chg [] w (((w).alloc (.cells #[.bool x.neg, .string x.num, .string x.den] 23)).alloc (.cells #[.bool x.neg, .string x.num, .string x.den] 23)) := (((Chg.refl _ _).alloc _).alloc _)
  have b1 := Blk3.alloc (w) (.bool x.neg) (.string x.num) (.string x.den) 23
  replace b1 := b1.keep ((Chg.refl [] _).alloc (.cells #[.bool x.neg, .string x.num, .string x.den] 23)) (by simp)
  have hr := Rats.one ((w).alloc (.cells #[.bool x.neg, .string x.num, .string x.den] 23)) x 23
  simp only [World.size_alloc] at hr b1
  cases hf : fewQ [x]
  · have HF := Lib.hid hf
    clear hf
    go_enter Tryz.func3, Tryz.ntmps3
    go_wp2_with fail
    refine (few2_any [x] (w.heap.size + 1) 1 _ hr (by simp)).mono ?_
    rintro e w1 ⟨rfl, c1⟩
    rw [HF.out]
    replace hch := hch.then c1
    clear c1
    go_wp2_with fail
    refine (awake2_any _).mono ?_
    rintro e w2 ⟨rfl, c1⟩
    replace hch := hch.then c1
    clear c1
    go_wp2_with fail
    go_ret
    exact ⟨rfl, hch⟩
  · have hss : x.num.size ≤ 24 ∧ x.den.size ≤ 24 := by simpa [fewQ, shortQ] using hf
    have HF := Lib.hid hf
    obtain ⟨sx1, sx2⟩ := hss
    obtain ⟨p, Hp⟩ := name_it (ratOf x)
    have nx : Num x p 24 := ⟨Hp.out, ⟨sx1, sx2⟩, by omega⟩
    clear hf sx1 sx2 Hp
    go_enter Tryz.func3, Tryz.ntmps3
    go_wp2_with fail
    refine (few2_any [x] (w.heap.size + 1) 1 _ hr (by simp)).mono ?_
    rintro e w1 ⟨rfl, c1⟩
    rw [HF.out]
    replace b1 := b1.keep c1 (by simp)
    replace hch := hch.then c1
    clear c1 hr HF
    have b1c0 := b1.c0
    have b1c1 := b1.c1
    have b1c2 := b1.c2
    have b1f0 := b1.f0
    have b1f1 := b1.f1
    have b1f2 := b1.f2
    have b1l := b1.lt
    go_wp2_with fail
    clear b1c0 b1f0 b1c1 b1f1 b1c2 b1f2 b1l
    obtain ⟨w0, HW0⟩ := name_it w1
    rw [HW0.out] at b1 hch ⊢
    replace b1 := b1.keep ((Chg.refl [] _).drew) (by simp)
    replace hch := hch.drew
    go_region_held3 (fun w' => w'.cell? ⟨w.heap.size, 0, none⟩ = some (.bool x.neg) ∧ w'.cell? ⟨w.heap.size, 1, none⟩ = some (.string x.num) ∧ w'.cell? ⟨w.heap.size, 2, none⟩ = some (.string x.den)) (first | exact ⟨b1.c0, b1.c1, b1.c2⟩ | exact ⟨by simp [go_sem, b1.c0], by simp [go_sem, b1.c1], by simp [go_sem, b1.c2]⟩) (first
        | (go_at_call 9
           (with_reducible refine (awake2_any _).mono ?_)
           rintro e w1 ⟨rfl, c1⟩
           replace b1 := b1.keep c1 (by simp)
           replace hch := hch.then c1
           clear c1)
        | (go_at_call 10
           (with_reducible refine (Decimal_any x n 24 _ nx.fit (by omega) (by omega) h1 h2).mono ?_)
           rintro e w1 ⟨s, rfl, hs, c1⟩
           replace b1 := b1.keep c1 (by simp)
           replace hch := hch.then c1
           rw [nx.rat] at hs
           clear c1)
        | (go_at_call 11
           (with_reducible refine (rDecimalN x n p 24 _ nx (by omega) h1 h2).mono ?_)
           rintro e w1 ⟨t, rfl, ht, c1⟩
           replace b1 := b1.keep c1 (by simp)
           replace hch := hch.then c1
           obtain rfl := list_eq2 (hs.trans ht.symm)
           clear c1))
    all_goals
      go_wp2_with fail
      go_ret
      exact ⟨ret_eq (by simp), hch⟩

end Go.Proofs.YtbhcchpkpclghaaGreatDoor
