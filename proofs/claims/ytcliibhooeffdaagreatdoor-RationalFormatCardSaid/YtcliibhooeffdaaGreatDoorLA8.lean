/-
  Law: Format.
-/
import Derived.Test.YtcliibhooeffdaaGreatDoorLA1
import Derived.Test.YtcliibhooeffdaaGreatDoorV15
namespace Go.Proofs.YtcliibhooeffdaaGreatDoor
open Go.RowKit Nd
theorem list_eq2 {a b : ByteArray} (h : a.data.toList = b.data.toList) : a = b := by
  cases a; cases b; congr; exact Array.toList_inj.1 h
theorem fmt_len {q : Rat} {k : Nat} (h : Bd k q) (hk : 1 ≤ k) : (fmtL q).length ≤ 6 * k + 2 := by
  have h0 := pow256_10 k
  have h1 := decL_len (Nat.lt_of_lt_of_le h.1 h0) (by omega)
  have h2 := decL_len (Nat.lt_of_lt_of_le h.2 h0) (by omega)
  unfold fmtL
  split <;> split <;> simp only [List.length_append, List.length_cons, List.length_nil] <;> omega

set_option maxRecDepth 20000 in
set_option maxHeartbeats 2000000 in
theorem lformat2_any (x : Q3) (w : World) :
    Calls Tryz.prog 10 #[.agg #[.bool x.neg, .string x.num, .string x.den]] w fun e w' => e = .returned (.bool true) ∧ Chg [] w w' := by
  have hch : Chg [] w (((w).alloc (.cells #[.bool x.neg, .string x.num, .string x.den] 23)).alloc (.cells #[.bool x.neg, .string x.num, .string x.den] 23)) := (((Chg.refl _ _).alloc _).alloc _)
  have b1 := Blk3.alloc (w) (.bool x.neg) (.string x.num) (.string x.den) 23
  replace b1 := b1.keep ((Chg.refl [] _).alloc (.cells #[.bool x.neg, .string x.num, .string x.den] 23)) (by simp)
  have hr := Rats.one ((w).alloc (.cells #[.bool x.neg, .string x.num, .string x.den] 23)) x 23
  simp only [World.size_alloc] at hr b1
  cases hf : fewQ [x]
  · have HF := Lib.hid hf
    clear hf
    go_enter Tryz.func10, Tryz.ntmps10
    go_wp2_with fail
    refine (few2_any [x] (w.heap.size + 1) 1 _ hr (by simp)).mono ?_
    rintro e w1 ⟨rfl, c1⟩
    rw [HF.out]
    replace hch := hch.then c1
    clear c1
    go_wp2_with fail
    refine (awake2_any _).mono ?_
    rintro e w2 ⟨rfl, c1⟩
    replace hch := hch.then c1
    clear c1
    go_wp2_with fail
    go_ret
    exact ⟨rfl, hch⟩
  · have hss : x.num.size ≤ 24 ∧ x.den.size ≤ 24 := by simpa [fewQ, shortQ] using hf
    have HF := Lib.hid hf
    obtain ⟨sx1, sx2⟩ := hss
    obtain ⟨p, Hp⟩ := name_it (ratOf x)
    have nx : Num x p 24 := ⟨Hp.out, ⟨sx1, sx2⟩, by omega⟩
    clear hf sx1 sx2 Hp
    go_enter Tryz.func10, Tryz.ntmps10
    go_wp2_with fail
    refine (few2_any [x] (w.heap.size + 1) 1 _ hr (by simp)).mono ?_
    rintro e w1 ⟨rfl, c1⟩
    rw [HF.out]
    replace b1 := b1.keep c1 (by simp)
    replace hch := hch.then c1
    clear c1 hr HF
    have b1c0 := b1.c0
    have b1c1 := b1.c1
    have b1c2 := b1.c2
    have b1f0 := b1.f0
    have b1f1 := b1.f1
    have b1f2 := b1.f2
    have b1l := b1.lt
    go_wp2_with fail
    clear b1c0 b1f0 b1c1 b1f1 b1c2 b1f2 b1l
    obtain ⟨w0, HW0⟩ := name_it w1
    rw [HW0.out] at b1 hch ⊢
    refine (Format_any x 24 _ nx.fit (by omega) (by omega)).mono ?_
    rintro e w1 ⟨s, rfl, hs, c1⟩
    replace b1 := b1.keep c1 (by simp)
    replace hch := hch.then c1
    clear c1
    rw [nx.rat] at hs
    have hss : s.size ≤ 1099511627776 := by rw [← size_len, hs]; have := fmt_len nx.bd (by omega); omega
    have hpp := parse_fmt p (bd_dec nx.bd (by omega) (by omega)).1 (bd_dec nx.bd (by omega) (by omega)).2
    have e1 : Hid ((parseP s.data.toList).1 = 0) := by show _ = _; rw [hs, hpp]
    have e2 : Hid ((parseP s.data.toList).2 = p) := by show _ = _; rw [hs, hpp]
    have HS := Lib.hid hs
    clear hpp hs
    have b1c0 := b1.c0
    have b1c1 := b1.c1
    have b1c2 := b1.c2
    have b1f0 := b1.f0
    have b1f1 := b1.f1
    have b1f2 := b1.f2
    have b1l := b1.lt
    go_wp2_with fail
    clear b1c0 b1f0 b1c1 b1f1 b1c2 b1f2 b1l
    refine (Parse_any s _ hss).mono ?_
    rintro e w1 ⟨z, rfl, hz, c1⟩
    rw [e2.out] at hz
    rw [e1.out]
    replace b1 := b1.keep c1 (by simp)
    replace hch := hch.then c1
    clear c1
    have b2 := Blk3.alloc w1 (.bool z.neg) (.string z.num) (.string z.den) 23
    replace b1 := b1.keep ((Chg.refl [] _).alloc (.cells #[.bool z.neg, .string z.num, .string z.den] 23)) (by simp)
    replace hch := hch.then ((Chg.refl [] _).alloc (.cells #[.bool z.neg, .string z.num, .string z.den] 23))
    obtain ⟨gb2, Gb2⟩ := name_it w1.heap.size
    rw [Gb2.out] at b2
    have hgb2 := Gb2.out
    obtain ⟨wb2, HWb2⟩ := name_it (w1.alloc (.cells #[.bool z.neg, .string z.num, .string z.den] 23))
    rw [HWb2.out] at b1 b2 hch
    have b1c0 := b1.c0
    have b1c1 := b1.c1
    have b1c2 := b1.c2
    have b1f0 := b1.f0
    have b1f1 := b1.f1
    have b1f2 := b1.f2
    have b1l := b1.lt
    have b2c0 := b2.c0
    have b2c1 := b2.c1
    have b2c2 := b2.c2
    have b2f0 := b2.f0
    have b2f1 := b2.f1
    have b2f2 := b2.f2
    have b2l := b2.lt
    rw [← HWb2.out] at b1c0 b1f0 b1c1 b1f1 b1c2 b1f2 b2c0 b2f0 b2c1 b2f1 b2c2 b2f2 b1l b2l
    go_wp2_with fail
    clear b1c0 b1f0 b1c1 b1f1 b1c2 b1f2 b1l b2c0 b2f0 b2c1 b2f1 b2c2 b2f2 b2l
    rw [HWb2.out]
    replace b1 := b1.keep ((Chg.refl [] _).drew) (by simp)
    replace b2 := b2.keep ((Chg.refl [] _).drew) (by simp)
    replace hch := hch.drew
    go_region_held3 (fun w' => w'.cell? ⟨w.heap.size, 0, none⟩ = some (.bool x.neg) ∧ w'.cell? ⟨w.heap.size, 1, none⟩ = some (.string x.num) ∧ w'.cell? ⟨w.heap.size, 2, none⟩ = some (.string x.den) ∧ w'.cell? ⟨gb2, 0, none⟩ = some (.bool z.neg) ∧ w'.cell? ⟨gb2, 1, none⟩ = some (.string z.num) ∧ w'.cell? ⟨gb2, 2, none⟩ = some (.string z.den)) (first | exact ⟨b1.c0, b1.c1, b1.c2, b2.c0, b2.c1, b2.c2⟩ | exact ⟨by simp [go_sem, b1.c0], by simp [go_sem, b1.c1], by simp [go_sem, b1.c2], by simp [go_sem, b2.c0], by simp [go_sem, b2.c1], by simp [go_sem, b2.c2]⟩) (first
        | (go_at_call 16
           (with_reducible refine (awake2_any _).mono ?_)
           rintro e w1 ⟨rfl, c1⟩
           replace b1 := b1.keep c1 (by simp)
           replace b2 := b2.keep c1 (by simp)
           replace hch := hch.then c1
           clear c1)
        | (go_at_call 48
           (with_reducible refine (rFormatN x p 24 _ nx (by omega)).mono ?_)
           rintro e w1 ⟨t, rfl, ht, c1⟩
           replace b1 := b1.keep c1 (by simp)
           replace b2 := b2.keep c1 (by simp)
           replace hch := hch.then c1
           obtain rfl : t = s := list_eq2 (ht.trans HS.out.symm)
           clear c1)
        | (go_at_call 49
           (with_reducible refine (rFixN x p 24 _ nx (by omega)).mono ?_)
           rintro e w1 ⟨y, rfl, hy, c1⟩
           replace b1 := b1.keep c1 (by simp)
           replace b2 := b2.keep c1 (by simp)
           replace hch := hch.then c1
           obtain rfl := hz.unique hy.enc
           clear c1))
    all_goals
      go_wp2_with fail
      go_ret
      exact ⟨ret_eq (by simp), hch⟩

end Go.Proofs.YtcliibhooeffdaaGreatDoor
