/-
  Several parts put together: DR3, DR4.
-/
import Derived.Test.YtogciehmdlfkfaaGreatDoorHB
/- Part DR3. -/

namespace Go.Proofs.YtogciehmdlfkfaaGreatDoor
open Go.RowKit Nd

theorem ext_mid (s : ByteArray) (a b : Nat) (_h : b ≤ s.size) : (s.extract a b).data.toList = (s.data.toList.take b).drop a := by
  rw [Lib.extract_data, List.drop_take]
theorem byt_get (s : ByteArray) (i : Nat) (h : i < s.size) : s.data.toList[i]? = some (UInt8.ofNat (byt s i)) := by
  have hl : i < s.data.toList.length := by rw [size_len]; exact h
  rw [List.getElem?_eq_getElem hl]
  unfold byt
  rw [List.getD_eq_getElem?_getD, List.getElem?_eq_getElem hl, Option.getD_some]
  simp
/-- The state of the loop that splits: what lies before from is split, no byte c lies between from and i. -/
structure SpI (c : UInt8) (s : ByteArray) (fr i : Nat) (out : List ByteArray) : Prop where
  le : fr ≤ i
  li : i ≤ s.size
  no : ∀ j, fr ≤ j → j < i → UInt8.ofNat (byt s j) ≠ c
  sp : spl c s.data.toList = out.map (·.data.toList) ++ spl c (s.data.toList.drop fr)
theorem SpI.start (c : UInt8) (s : ByteArray) : SpI c s 0 0 [] := ⟨Nat.le_refl _, Nat.zero_le _, fun j h1 h2 => absurd h2 (by omega), by simp⟩
theorem SpI.skip {c : UInt8} {s : ByteArray} {fr i : Nat} {out : List ByteArray} (h : SpI c s fr i out) (hi : i < s.size) (hc : UInt8.ofNat (byt s i) ≠ c) : SpI c s fr (i + 1) out :=
  ⟨by have := h.le; omega, hi, fun j h1 h2 => by
    by_cases hji : j = i
    · rw [hji]; exact hc
    · exact h.no j h1 (by omega), h.sp⟩
theorem mid_split {c : UInt8} {s : ByteArray} {fr i : Nat} (hle : fr ≤ i) (hi : i < s.size) (hc : UInt8.ofNat (byt s i) = c) : s.data.toList.drop fr = (s.extract fr i).data.toList ++ c :: s.data.toList.drop (i + 1) := by
  rw [ext_mid s fr i (by omega)]
  have h1 : s.data.toList.drop i = c :: s.data.toList.drop (i + 1) := by
    rw [List.drop_eq_getElem_cons (by rw [size_len]; exact hi)]
    have := byt_get s i hi
    rw [List.getElem?_eq_getElem (by rw [size_len]; exact hi), Option.some.injEq] at this
    rw [this, hc]
  rw [← h1]
  have h2 : s.data.toList.drop i = (s.data.toList.drop fr).drop (i - fr) := by rw [List.drop_drop]; congr 1; omega
  have h3 : (s.data.toList.take i).drop fr = (s.data.toList.drop fr).take (i - fr) := by rw [List.drop_take]
  rw [h2, h3, List.take_append_drop]
theorem mid_no {c : UInt8} {s : ByteArray} {fr i : Nat} (hi : i ≤ s.size) (hno : ∀ j, fr ≤ j → j < i → UInt8.ofNat (byt s j) ≠ c) : ∀ x ∈ (s.extract fr i).data.toList, x ≠ c := by
  intro x hx
  rw [ext_mid s fr i hi] at hx
  obtain ⟨k, hk, rfl⟩ := List.getElem_of_mem hx
  simp only [List.length_drop, List.length_take, size_len] at hk
  have h1 := hno (fr + k) (by omega) (by omega)
  rw [List.getElem_drop, List.getElem_take]
  have := byt_get s (fr + k) (by omega)
  rw [List.getElem?_eq_getElem (by rw [size_len]; omega), Option.some.injEq] at this
  rw [this]; exact h1
theorem SpI.hit {c : UInt8} {s : ByteArray} {fr i : Nat} {out : List ByteArray} (h : SpI c s fr i out) (hi : i < s.size) (hc : UInt8.ofNat (byt s i) = c) : SpI c s (i + 1) (i + 1) (out ++ [s.extract fr i]) := by
  refine ⟨Nat.le_refl _, hi, fun j h1 h2 => absurd h2 (by omega), ?_⟩
  rw [h.sp, mid_split h.le hi hc, spl_app c _ _ (mid_no h.li h.no)]
  simp
theorem SpI.fin {c : UInt8} {s : ByteArray} {fr i : Nat} {out : List ByteArray} (h : SpI c s fr i out) (hi : i = s.size) : spl c s.data.toList = (out ++ [s.extract fr s.size]).map (·.data.toList) := by
  subst hi
  have h1 := mid_no (c := c) (s := s) (fr := fr) (Nat.le_refl _) h.no
  have h2 : (s.extract fr s.size).data.toList = s.data.toList.drop fr := ext_drop s fr
  rw [h.sp, ← h2, spl_none c _ h1]
  simp
theorem words_of {s : ByteArray} {l : List ByteArray} (h : spl 32 s.data.toList = l.map (·.data.toList)) : wordsB s = l := by
  unfold wordsB
  rw [h, List.map_map]
  conv => rhs; rw [← List.map_id l]
  congr 1
end Go.Proofs.YtogciehmdlfkfaaGreatDoor

/- Part DR4. -/

namespace Go.Proofs.YtogciehmdlfkfaaGreatDoor
open Go.RowKit Nd

/-- A list of strings that was made. -/
structure OutW (w : World) (v : Value) (l : List ByteArray) (w' : World) : Prop where
  own : OwnWd w' v l
  bk : ∀ x, x ∈ v.ownBlock.toList → w.heap.size ≤ x
  ch : Chg [] w w'
structure WordsPo (w : World) (l : List ByteArray) (e : Ending) (w' : World) : Prop where
  out : ∃ v, e = .returned v ∧ OutW w v l w'
set_option maxRecDepth 20000 in
set_option maxHeartbeats 4000000 in
theorem rWords_any (s : ByteArray) (w : World) (hs : s.size ≤ 100000000) :
    Calls Tryz.prog 65 #[.string s] w (WordsPo w (wordsB s)) := by
  obtain ⟨R, HR⟩ := name_it (wordsB s)
  rw [HR.out]
  go_enter Tryz.func65, Tryz.ntmps65
  go_wp2
  go_loopw [3, 4, 5] (fun ov fv iv wr => ∃ (fr i : Nat) (out : List ByteArray), fv = .int .i64 fr ∧ iv = .int .i64 i ∧ SpI 32 s fr i out ∧ OwnWd wr ov out ∧ (∀ x, x ∈ ov.ownBlock.toList → w.heap.size ≤ x) ∧ out.length ≤ i ∧ Chg [] w wr) (fun _ _ iv _ => s.size - (intOf iv).toNat)
  case atStart => exact ⟨0, 0, [], rfl, rfl, SpI.start 32 s, OwnWd.nil _, by simp [Value.ownBlock], Nat.le_refl _, Chg.refl _ _⟩
  case round =>
    obtain ⟨fr, i, out, rfl, rfl, hsp, hown, hbk, hln, hch⟩ := hrel
    have HSP := Lib.hid hsp
    have HO := Lib.hid hown
    have HBK := Lib.hid hbk
    have e1 : (fr : Int) ≤ (i : Int) := by have := hsp.le; omega
    have e2 : (i : Int) ≤ (s.size : Int) := by have := hsp.li; omega
    have e3 : (0 : Int) ≤ (fr : Int) := by omega
    have hi2 := hsp.li
    clear hsp hown hbk
    by_cases hlt : i < s.size
    · obtain ⟨d, HD⟩ := name_it (byt s i)
      have hd := byt_lt s i
      rw [HD.out] at hd
      have hix := idx_str s i d hlt HD.out
      by_cases hc : d = 32
      · have q : ((d : Int) == 32) = true := by simp; omega
        have hh := HSP.out.hit hlt (by rw [HD.out, hc]; rfl)
        have HH := Lib.hid hh
        clear hc hh
        obtain ⟨y, HY⟩ := name_it (s.extract fr i)
        rw [HY.out] at HH
        go_wp2_with (first
          | (at_builtin; refine wpList_appendWd _ rfl (.tmp 16) (.tmp 21) rfl u3 out rfl (HO.out.keep0 ((Chg.refl [] _).alloc _)) _ 1 (s.extract fr i) rfl (sWd_new _ (s.extract fr i)) (by omega) ?_; intro v5 w5 own5 cv5 hv5)
          | fail)
        have HBK5 : Hid (∀ x ∈ v5.ownBlock.toList, w.heap.size ≤ x) := Lib.hid fun x hx => by
          rcases hv5 with h5 | h5
          · rw [h5] at hx; exact HBK.out x hx
          · rw [h5] at hx; simp at hx; have := hch.size; omega
        have hch5 := (hch.alloc _).trans cv5 (fun x hx => .inr (HBK.out x hx))
        go_roundw
        case rel => exact ⟨i + 1, i + 1, out ++ [s.extract fr i], by go_num, by go_num, by rw [HY.out]; exact HH.out, own5, HBK5.out, by rw [List.length_append]; simp; omega, hch5⟩
        case measure => simp [intOf]; omega
      · have q : ((d : Int) == 32) = false := by simp; omega
        have hh := HSP.out.skip hlt (by rw [HD.out]; intro h; apply hc; have := congrArg UInt8.toNat h; simp at this; omega)
        have HH := Lib.hid hh
        clear hc hh
        go_wp2
        go_roundw
        case rel => exact ⟨fr, i + 1, out, rfl, by go_num, HH.out, HO.out, HBK.out, by omega, hch⟩
        case measure => simp [intOf]; omega
    · have hin : i = s.size := by omega
      have dl : decide ((i : Int) < (s.size : Int)) = false := by simp; omega
      have hf := HSP.out.fin hin
      have HF : Hid (R = out ++ [s.extract fr s.size]) := by show _ = _; rw [← HR.out]; exact words_of hf
      have e4 : (fr : Int) ≤ (s.size : Int) := by omega
      clear hf
      go_wp2_with (first
        | (at_builtin; refine wpList_appendWd _ rfl (.tmp 25) (.tmp 29) rfl u3 out rfl (HO.out.keep0 ((Chg.refl [] _).alloc _)) _ 1 (s.extract fr s.size) rfl (sWd_new _ (s.extract fr s.size)) (by omega) ?_; intro v5 w5 own5 cv5 hv5)
        | fail)
      have HBK5 : Hid (∀ x ∈ v5.ownBlock.toList, w.heap.size ≤ x) := Lib.hid fun x hx => by
        rcases hv5 with h5 | h5
        · rw [h5] at hx; exact HBK.out x hx
        · rw [h5] at hx; simp at hx; have := hch.size; omega
      have hch5 := (hch.alloc _).trans cv5 (fun x hx => .inr (HBK.out x hx))
      go_ret
      rw [HF.out]
      exact ⟨v5, ret_eq rfl, own5, HBK5.out, hch5⟩
/-- The lines of a text as strings. -/
def linesB (s : ByteArray) : List ByteArray := (lnE s.data.toList).map fun x => ⟨x.1.toArray⟩
def endedB (s : ByteArray) : Bool := (lnE s.data.toList).all (·.2)
theorem lnE_spl : ∀ l : List UInt8, lnE l = ((spl 10 l).dropLast.map fun x => (x, true)) ++ (if (spl 10 l).getLast? = some [] then [] else ((spl 10 l).getLast?.toList.map fun x => (x, false)))
  | [] => by simp [spl, lnE]
  | x :: l => by
    have ih := lnE_spl l
    have hne := spl_ne 10 l
    by_cases h : x = 10
    · rw [lnE, if_pos h, spl, if_pos h, ih]
      cases hs : spl 10 l with
      | nil => exact absurd hs hne
      | cons a t => simp
    · rw [lnE, if_neg h, spl, if_neg h, ih]
      cases hs : spl 10 l with
      | nil => exact absurd hs hne
      | cons a t =>
        cases t with
        | nil =>
          by_cases ha : a = []
          · subst ha; simp
          · simp [ha]
        | cons b u =>
          simp only [List.dropLast_cons_cons, List.map_cons, List.cons_append]
          rw [List.getLast?_cons_cons, List.getLast?_cons_cons]
theorem lines_full {s : ByteArray} {l : List ByteArray} (h : spl 10 s.data.toList = (l ++ [(⟨#[]⟩ : ByteArray)]).map (·.data.toList)) : linesB s = l ∧ endedB s = true := by
  unfold linesB endedB
  rw [lnE_spl, h]
  simp [Function.comp_def]
theorem lines_part {s x : ByteArray} {l : List ByteArray} (hx : x.data.toList ≠ []) (h : spl 10 s.data.toList = (l ++ [x]).map (·.data.toList)) : linesB s = l ++ [x] ∧ endedB s = false := by
  unfold linesB endedB
  rw [lnE_spl, h]
  simp [Function.comp_def, hx]
structure LinesPo (w : World) (l : List ByteArray) (b : Bool) (e : Ending) (w' : World) : Prop where
  out : ∃ v, e = .returned (.tuple #[v, .bool b]) ∧ OutW w v l w'
set_option maxRecDepth 20000 in
set_option maxHeartbeats 4000000 in
theorem rLines_any (s : ByteArray) (w : World) (hs : s.size ≤ 100000000) :
    Calls Tryz.prog 23 #[.string s] w (LinesPo w (linesB s) (endedB s)) := by
  obtain ⟨R, HR⟩ := name_it (linesB s)
  obtain ⟨B, HB⟩ := name_it (endedB s)
  rw [HR.out, HB.out]
  go_enter Tryz.func23, Tryz.ntmps23
  go_wp2
  go_loopw [4, 5, 6] (fun ov fv iv wr => ∃ (fr i : Nat) (out : List ByteArray), fv = .int .i64 fr ∧ iv = .int .i64 i ∧ SpI 10 s fr i out ∧ OwnWd wr ov out ∧ (∀ x, x ∈ ov.ownBlock.toList → w.heap.size ≤ x) ∧ out.length ≤ i ∧ Chg [] w wr) (fun _ _ iv _ => s.size - (intOf iv).toNat)
  case atStart => exact ⟨0, 0, [], rfl, rfl, SpI.start 10 s, OwnWd.nil _, by simp [Value.ownBlock], Nat.le_refl _, Chg.refl _ _⟩
  case round =>
    obtain ⟨fr, i, out, rfl, rfl, hsp, hown, hbk, hln, hch⟩ := hrel
    have HSP := Lib.hid hsp
    have HO := Lib.hid hown
    have HBK := Lib.hid hbk
    have e1 : (fr : Int) ≤ (i : Int) := by have := hsp.le; omega
    have e2 : (i : Int) ≤ (s.size : Int) := by have := hsp.li; omega
    have e3 : (0 : Int) ≤ (fr : Int) := by omega
    have hi2 := hsp.li
    clear hsp hown hbk
    by_cases hlt : i < s.size
    · obtain ⟨d, HD⟩ := name_it (byt s i)
      have hd := byt_lt s i
      rw [HD.out] at hd
      have hix := idx_str s i d hlt HD.out
      by_cases hc : d = 10
      · have q : ((d : Int) == 10) = true := by simp; omega
        have hh := HSP.out.hit hlt (by rw [HD.out, hc]; rfl)
        have HH := Lib.hid hh
        clear hc hh
        obtain ⟨y, HY⟩ := name_it (s.extract fr i)
        rw [HY.out] at HH
        go_wp2_with (first
          | (at_builtin; refine wpList_appendWd _ rfl (.tmp 17) (.tmp 22) rfl u4 out rfl (HO.out.keep0 ((Chg.refl [] _).alloc _)) _ 1 (s.extract fr i) rfl (sWd_new _ (s.extract fr i)) (by omega) ?_; intro v5 w5 own5 cv5 hv5)
          | fail)
        have HBK5 : Hid (∀ x ∈ v5.ownBlock.toList, w.heap.size ≤ x) := Lib.hid fun x hx => by
          rcases hv5 with h5 | h5
          · rw [h5] at hx; exact HBK.out x hx
          · rw [h5] at hx; simp at hx; have := hch.size; omega
        have hch5 := (hch.alloc _).trans cv5 (fun x hx => .inr (HBK.out x hx))
        go_roundw
        case rel => exact ⟨i + 1, i + 1, out ++ [s.extract fr i], by go_num, by go_num, by rw [HY.out]; exact HH.out, own5, HBK5.out, by rw [List.length_append]; simp; omega, hch5⟩
        case measure => simp [intOf]; omega
      · have q : ((d : Int) == 10) = false := by simp; omega
        have hh := HSP.out.skip hlt (by rw [HD.out]; intro h; apply hc; have := congrArg UInt8.toNat h; simp at this; omega)
        have HH := Lib.hid hh
        clear hc hh
        go_wp2
        go_roundw
        case rel => exact ⟨fr, i + 1, out, rfl, by go_num, HH.out, HO.out, HBK.out, by omega, hch⟩
        case measure => simp [intOf]; omega
    · have hin : i = s.size := by omega
      have dl : decide ((i : Int) < (s.size : Int)) = false := by simp; omega
      have hf := HSP.out.fin hin
      have e4 : (fr : Int) ≤ (s.size : Int) := by omega
      by_cases hlast : fr < s.size
      · have d5 : decide ((fr : Int) < (s.size : Int)) = true := by simp; omega
        have hx : (s.extract fr s.size).data.toList ≠ [] := by
          intro h
          have := congrArg List.length h
          rw [size_len, ByteArray.size_extract] at this
          simp at this; omega
        obtain ⟨l1, l2⟩ := lines_part hx hf
        have HF : Hid (R = out ++ [s.extract fr s.size]) := by show _ = _; rw [← HR.out]; exact l1
        have HB2 : Hid (B = false) := by show _ = _; rw [← HB.out]; exact l2
        clear hf hx l1 l2
        go_wp2_with (first
          | (at_builtin; refine wpList_appendWd _ rfl (.tmp 30) (.tmp 34) rfl u4 out rfl (HO.out.keep0 ((Chg.refl [] _).alloc _)) _ 1 (s.extract fr s.size) rfl (sWd_new _ (s.extract fr s.size)) (by omega) ?_; intro v5 w5 own5 cv5 hv5)
          | fail)
        have HBK5 : Hid (∀ x ∈ v5.ownBlock.toList, w.heap.size ≤ x) := Lib.hid fun x hx => by
          rcases hv5 with h5 | h5
          · rw [h5] at hx; exact HBK.out x hx
          · rw [h5] at hx; simp at hx; have := hch.size; omega
        have hch5 := (hch.alloc _).trans cv5 (fun x hx => .inr (HBK.out x hx))
        go_ret2
        rw [HF.out, HB2.out]
        exact ⟨v5, ret_eq rfl, own5, HBK5.out, hch5⟩
      · have d5 : decide ((fr : Int) < (s.size : Int)) = false := by simp; omega
        have hxe : s.extract fr s.size = (⟨#[]⟩ : ByteArray) := by
          apply ByteArray.ext
          apply Array.toList_inj.1
          rw [ext_drop, List.drop_eq_nil_of_le (by rw [size_len]; omega)]
        rw [hxe] at hf
        obtain ⟨l1, l2⟩ := lines_full hf
        have HF : Hid (R = out) := by show _ = _; rw [← HR.out]; exact l1
        have HB2 : Hid (B = true) := by show _ = _; rw [← HB.out]; exact l2
        clear hf hxe l1 l2
        obtain ⟨A4, c4, rfl, -, -, -⟩ := HO.out.rds
        go_wp2
        go_ret2
        rw [HF.out, HB2.out]
        exact ⟨_, ret_eq rfl, HO.out, HBK.out, hch⟩
end Go.Proofs.YtogciehmdlfkfaaGreatDoor
