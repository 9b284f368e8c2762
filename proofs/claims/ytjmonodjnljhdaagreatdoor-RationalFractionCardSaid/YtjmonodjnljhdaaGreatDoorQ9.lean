/-
  Walks of package rational: Cut, Parse.
-/
import Derived.Test.YtjmonodjnljhdaaGreatDoorQ8
import Derived.Lib.IndexLaws
namespace Go.Proofs.YtjmonodjnljhdaaGreatDoor
open Go.RowKit Nd

/-- The pieces ahead of and behind the first byte c. -/
def cutAt : List UInt8 → UInt8 → Option (List UInt8 × List UInt8)
  | [], _ => none
  | b :: l, c => if b = c then some ([], l) else match cutAt l c with | some (x, y) => some (b :: x, y) | none => none
theorem cutAt_none {c : UInt8} : ∀ {l : List UInt8}, Lib.indexByte l c = -1 → cutAt l c = none
  | [], _ => rfl
  | b :: l, h => by
    have h1 := Lib.indexByte_none h 0
    have hb : b ≠ c := by intro he; apply h1; simp [he]
    have h2 : Lib.indexByte l c = -1 := by
      unfold Lib.indexByte at h
      have hbf : (b == c) = false := by simpa using hb
      rw [hbf] at h
      simp only [Bool.false_eq_true, if_false] at h
      split at h
      · rename_i h3; simpa using h3
      · have := Lib.indexByte_ge l c; omega
    rw [cutAt, if_neg hb, cutAt_none h2]
theorem cutAt_some {c : UInt8} : ∀ {l : List UInt8} {o : Nat}, Lib.indexByte l c = o → cutAt l c = some (l.take o, l.drop (o + 1))
  | [], o, h => by simp [Lib.indexByte] at h
  | b :: l, o, h => by
    unfold Lib.indexByte at h
    by_cases hb : b = c
    · have hbt : (b == c) = true := by simpa using hb
      rw [hbt] at h
      simp only [if_true] at h
      obtain rfl : o = 0 := by omega
      rw [cutAt, if_pos hb]; simp
    · have hbf : (b == c) = false := by simpa using hb
      rw [hbf] at h
      simp only [Bool.false_eq_true, if_false] at h
      split at h
      · omega
      · have hge := Lib.indexByte_ge l c
        rename_i h3
        have hne : Lib.indexByte l c ≠ -1 := by simpa using h3
        obtain ⟨k, rfl⟩ : ∃ k, o = k + 1 := ⟨o - 1, by omega⟩
        have := cutAt_some (l := l) (c := c) (o := k) (by omega)
        rw [cutAt, if_neg hb, this]; simp

set_option maxRecDepth 20000 in
set_option maxHeartbeats 400000 in
theorem cut_none (s : ByteArray) (c : UInt8) (w : World) (hs : s.size ≤ 1099511627776) (h : Lib.indexByte s.data.toList c = -1) :
    Calls Tryz.prog 88 #[.string s, .string ⟨#[c]⟩] w fun e w' => e = .returned (.tuple #[.string s, .string ⟨#[]⟩, .bool false]) ∧ Chg [] w w' := by
  have H := Lib.hid h
  clear h
  have key : Calls Tryz.prog 117 #[.string s, .string ⟨#[c]⟩] w fun e w' => e = .returned (.tuple #[.string s, .string ⟨#[]⟩, .bool false]) ∧ Chg [] w w' := by
    go_enter Tryz.func117, Tryz.ntmps117
    go_wp2_with fail
    refine (Tryz.stringslite_Index_one s c _).mono ?_
    rintro e w' ⟨rfl, rfl⟩
    rw [H.out]
    go_wp2_with fail
    go_ret3
    exact ⟨rfl, Chg.refl _ _⟩
  go_enter Tryz.func88, Tryz.ntmps88
  go_wp2_with fail
  refine key.mono ?_
  rintro e w' ⟨rfl, c1⟩
  go_wp2_with fail
  go_ret3
  exact ⟨rfl, c1⟩

set_option maxRecDepth 20000 in
set_option maxHeartbeats 400000 in
theorem cut_some (s : ByteArray) (c : UInt8) (o : Nat) (w : World) (hs : s.size ≤ 1099511627776) (h : Lib.indexByte s.data.toList c = o) :
    Calls Tryz.prog 88 #[.string s, .string ⟨#[c]⟩] w fun e w' => e = .returned (.tuple #[.string (s.extract 0 o), .string (s.extract (o + 1) s.size), .bool true]) ∧ Chg [] w w' := by
  have hlt : o < s.size := by
    have h1 := (Lib.indexByte_some h).1
    have := (List.getElem?_eq_some_iff.1 h1).1
    rw [size_len] at this
    exact this
  have H := Lib.hid h
  clear h
  have key : Calls Tryz.prog 117 #[.string s, .string ⟨#[c]⟩] w fun e w' => e = .returned (.tuple #[.string (s.extract 0 o), .string (s.extract (o + 1) s.size), .bool true]) ∧ Chg [] w w' := by
    have hch : Chg [] w w.drew := (Chg.refl _ _).drew
    go_enter Tryz.func117, Tryz.ntmps117
    go_wp2_with fail
    refine (Tryz.stringslite_Index_one s c _).mono ?_
    rintro e w' ⟨rfl, rfl⟩
    rw [H.out]
    go_wp2_with fail
    go_region
    all_goals
      go_wp2_with fail
      go_ret3
      exact ⟨rfl, hch⟩
  go_enter Tryz.func88, Tryz.ntmps88
  go_wp2_with fail
  refine key.mono ?_
  rintro e w' ⟨rfl, c1⟩
  go_wp2_with fail
  go_ret3
  exact ⟨rfl, c1⟩

def negP (l : List UInt8) : Bool := Lib.hasPrefix l [45]
def bodyP (l : List UInt8) : List UInt8 := Lib.trimPrefix l [45]
def parseP (l : List UInt8) : Int × Rat :=
  match cutAt (bodyP l) 47 with
  | some (a, b) => (quoE a b, quoQ (negP l) a b)
  | none => match cutAt (bodyP l) 46 with
    | some (a, b) => (decE a b, decQ (negP l) a b)
    | none => (quoE (bodyP l) [49], quoQ (negP l) (bodyP l) [49])
theorem bodyP_len (l : List UInt8) : (bodyP l).length ≤ l.length := by unfold bodyP Lib.trimPrefix; split <;> simp
theorem ext_take (s : ByteArray) (o : Nat) : (s.extract 0 o).data.toList = s.data.toList.take o := by simp
theorem ext_drop (s : ByteArray) (o : Nat) : (s.extract o s.size).data.toList = s.data.toList.drop o := by
  rw [Lib.extract_data]
  exact List.take_of_length_le (by rw [List.length_drop, size_len]; omega)
theorem ext_size (s : ByteArray) (a b : Nat) : (s.extract a b).size ≤ s.size := by
  rw [← size_len, Lib.extract_data, ← size_len]; simp only [List.length_take, List.length_drop]; omega

set_option maxRecDepth 20000 in
set_option maxHeartbeats 1000000 in
theorem Parse_any (s : ByteArray) (w : World) (hs : s.size ≤ 1099511627776) :
    Calls Tryz.prog 50 #[.string s] w fun e w' => ∃ x, e = .returned (.tuple #[.agg #[.bool x.neg, .string x.num, .string x.den], .int .i64 (parseP s.data.toList).1]) ∧ Enc x (parseP s.data.toList).2 ∧ Chg [] w w' := by
  have b0 := Blk3.alloc w (.bool false) (.string ⟨#[]⟩) (.string ⟨#[]⟩) 23
  have hch : Chg [] w (w.alloc (.cells #[.bool false, .string ⟨#[]⟩, .string ⟨#[]⟩] 23)) := (Chg.refl _ _).alloc _
  obtain ⟨r, HR⟩ := name_it (parseP s.data.toList).1
  obtain ⟨q, HQ⟩ := name_it (parseP s.data.toList).2
  rw [HR.out, HQ.out]
  obtain ⟨t, HT⟩ := name_it (⟨(Lib.trimPrefix s.data.toList [45]).toArray⟩ : ByteArray)
  have htl : Hid (t.data.toList = bodyP s.data.toList) := by show _ = _; rw [← HT.out]; rfl
  have zt : t.size ≤ 1099511627776 := by
    rw [← size_len, htl.out]
    have := bodyP_len s.data.toList
    rw [size_len] at this; omega
  obtain ⟨neg, HN⟩ := name_it (Lib.hasPrefix s.data.toList [45])
  have hneg : Hid (negP s.data.toList = neg) := HN
  go_enter Tryz.func50, Tryz.ntmps50
  go_wp2_with fail
  refine (Tryz.strings_CutPrefix s ⟨#[45]⟩ _).mono ?_
  rintro e w1 ⟨rfl, rfl⟩
  rw [show (⟨(Lib.trimPrefix s.data.toList (⟨#[45]⟩ : ByteArray).data.toList).toArray⟩ : ByteArray) = t from HT.out, show Lib.hasPrefix s.data.toList (⟨#[45]⟩ : ByteArray).data.toList = neg from HN.out]
  go_wp2_with fail
  by_cases h1 : Lib.indexByte t.data.toList 47 = -1
  · have C1 := Lib.hid (cutAt_none h1)
    refine (cut_none t 47 _ zt h1).mono ?_
    rintro e w1 ⟨rfl, c1⟩
    clear h1
    replace b0 := b0.keep c1 (by simp)
    replace hch := hch.then c1
    clear c1
    go_wp2_with fail
    by_cases h2 : Lib.indexByte t.data.toList 46 = -1
    · have C2 := Lib.hid (cutAt_none h2)
      have hr : Hid (r = quoE t.data.toList [49]) := by
        show _ = _
        rw [← HR.out]; unfold parseP; rw [← htl.out, C1.out, C2.out]
      have hq : Hid (q = quoQ neg t.data.toList [49]) := by
        show _ = _
        rw [← HQ.out]; unfold parseP; rw [← htl.out, C1.out, C2.out, hneg.out]
      refine (cut_none t 46 _ zt h2).mono ?_
      rintro e w2 ⟨rfl, c1⟩
      clear h2
      replace b0 := b0.keep c1 (by simp)
      replace hch := hch.then c1
      clear c1
      go_wp2_with fail
      refine (parseQuotient_any neg t ⟨#[49]⟩ _ zt (by decide)).mono ?_
      rintro e w1 ⟨x, rfl, hx, c1⟩
      replace b0 := b0.keep c1 (by simp)
      replace hch := hch.then c1
      clear c1
      rw [show _ = q from hq.out.symm] at hx
      have HX := Lib.hid hx
      clear hx
      have b0c0 := b0.c0
      have b0c1 := b0.c1
      have b0c2 := b0.c2
      have b0f0 := b0.f0
      have b0f1 := b0.f1
      have b0f2 := b0.f2
      have b0l := b0.lt
      go_wp2_with fail
      have S := b0.store (.bool x.neg) (.string x.num) (.string x.den)
      rw [hr.out]
      exact bodyPost_ret (v := .tuple #[.agg #[.bool x.neg, .string x.num, .string x.den], .int .i64 (_)]) (by simp [results, Tryz.results50, go_sem, S.c0, S.c1, S.c2]) rfl ⟨x, rfl, HX.out, hch.store3 (.inr (Nat.le_refl _)) _ _ _⟩
    · obtain ⟨i, hi⟩ : ∃ i : Nat, Lib.indexByte t.data.toList 46 = i := ⟨(Lib.indexByte t.data.toList 46).toNat, by have := Lib.indexByte_ge t.data.toList 46; omega⟩
      have C2 := Lib.hid (cutAt_some hi)
      have hr : Hid (r = decE (t.extract 0 i).data.toList (t.extract (i + 1) t.size).data.toList) := by
        show _ = _
        rw [← HR.out, ext_take, ext_drop]; unfold parseP; rw [← htl.out, C1.out, C2.out]
      have hq : Hid (q = decQ neg (t.extract 0 i).data.toList (t.extract (i + 1) t.size).data.toList) := by
        show _ = _
        rw [← HQ.out, ext_take, ext_drop]; unfold parseP; rw [← htl.out, C1.out, C2.out, hneg.out]
      refine (cut_some t 46 i _ zt hi).mono ?_
      rintro e w2 ⟨rfl, c1⟩
      clear hi h2
      replace b0 := b0.keep c1 (by simp)
      replace hch := hch.then c1
      clear c1
      have za := ext_size t 0 i
      have zb := ext_size t (i + 1) t.size
      obtain ⟨A, HA⟩ := name_it (t.extract 0 i)
      obtain ⟨D, HD⟩ := name_it (t.extract (i + 1) t.size)
      rw [HA.out] at za hr hq ⊢
      rw [HD.out] at zb hr hq ⊢
      go_wp2_with fail
      refine (parseDecimal_any neg A D _ (by omega) (by omega)).mono ?_
      rintro e w1 ⟨x, rfl, hx, c1⟩
      replace b0 := b0.keep c1 (by simp)
      replace hch := hch.then c1
      clear c1
      rw [show _ = q from hq.out.symm] at hx
      have HX := Lib.hid hx
      clear hx
      have b0c0 := b0.c0
      have b0c1 := b0.c1
      have b0c2 := b0.c2
      have b0f0 := b0.f0
      have b0f1 := b0.f1
      have b0f2 := b0.f2
      have b0l := b0.lt
      go_wp2_with fail
      have S := b0.store (.bool x.neg) (.string x.num) (.string x.den)
      rw [hr.out]
      exact bodyPost_ret (v := .tuple #[.agg #[.bool x.neg, .string x.num, .string x.den], .int .i64 (_)]) (by simp [results, Tryz.results50, go_sem, S.c0, S.c1, S.c2]) rfl ⟨x, rfl, HX.out, hch.store3 (.inr (Nat.le_refl _)) _ _ _⟩
  · obtain ⟨i, hi⟩ : ∃ i : Nat, Lib.indexByte t.data.toList 47 = i := ⟨(Lib.indexByte t.data.toList 47).toNat, by have := Lib.indexByte_ge t.data.toList 47; omega⟩
    have C1 := Lib.hid (cutAt_some hi)
    have hr : Hid (r = quoE (t.extract 0 i).data.toList (t.extract (i + 1) t.size).data.toList) := by
      show _ = _
      rw [← HR.out, ext_take, ext_drop]; unfold parseP; rw [← htl.out, C1.out]
    have hq : Hid (q = quoQ neg (t.extract 0 i).data.toList (t.extract (i + 1) t.size).data.toList) := by
      show _ = _
      rw [← HQ.out, ext_take, ext_drop]; unfold parseP; rw [← htl.out, C1.out, hneg.out]
    refine (cut_some t 47 i _ zt hi).mono ?_
    rintro e w1 ⟨rfl, c1⟩
    clear hi h1
    replace b0 := b0.keep c1 (by simp)
    replace hch := hch.then c1
    clear c1
    have za := ext_size t 0 i
    have zb := ext_size t (i + 1) t.size
    obtain ⟨A, HA⟩ := name_it (t.extract 0 i)
    obtain ⟨D, HD⟩ := name_it (t.extract (i + 1) t.size)
    rw [HA.out] at za hr hq ⊢
    rw [HD.out] at zb hr hq ⊢
    go_wp2_with fail
    refine (parseQuotient_any neg A D _ (by omega) (by omega)).mono ?_
    rintro e w1 ⟨x, rfl, hx, c1⟩
    replace b0 := b0.keep c1 (by simp)
    replace hch := hch.then c1
    clear c1
    rw [show _ = q from hq.out.symm] at hx
    have HX := Lib.hid hx
    clear hx
    have b0c0 := b0.c0
    have b0c1 := b0.c1
    have b0c2 := b0.c2
    have b0f0 := b0.f0
    have b0f1 := b0.f1
    have b0f2 := b0.f2
    have b0l := b0.lt
    go_wp2_with fail
    have S := b0.store (.bool x.neg) (.string x.num) (.string x.den)
    rw [hr.out]
    exact bodyPost_ret (v := .tuple #[.agg #[.bool x.neg, .string x.num, .string x.den], .int .i64 (_)]) (by simp [results, Tryz.results50, go_sem, S.c0, S.c1, S.c2]) rfl ⟨x, rfl, HX.out, hch.store3 (.inr (Nat.le_refl _)) _ _ _⟩

end Go.Proofs.YtjmonodjnljhdaaGreatDoor
