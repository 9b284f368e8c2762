/-
  Several parts put together: DX1, DX2, DX4, DX5.
-/
import Derived.Test.YtogciehmdlfkfaaGreatDoorHA
import Derived.Test.YtogciehmdlfkfaaGreatDoorHS
import Derived.BigQuiet
import Derived.Lib.SmallJoins
import Derived.ChangeBears2
import Derived.Lib.LaidTab
import Derived.Lib.ItoaNum
/- Part DX1. -/

namespace Go.Proofs.YtogciehmdlfkfaaGreatDoor
open Go.RowKit Nd

theorem SWd_new (w : World) (xs : List ByteArray) (e : TypeId) : SWd (w.alloc (.cells (xs.map Value.string).toArray e)) (some ⟨w.heap.size, 0, none⟩) xs := by
  intro _
  refine ⟨_, 0, rfl, by simp, fun j hj => ⟨?_, by simp⟩⟩
  have hx : xs[j]? = some (xs.getD j wd0) := by rw [List.getD_eq_getElem?_getD, List.getElem?_eq_getElem hj, Option.getD_some]
  rw [World.cell?_alloc_at _ _ _ _ (by simp)]
  rw [Nat.zero_add, Nat.mul_one, List.getElem?_toArray, List.getElem?_map, hx]; rfl
set_option maxRecDepth 20000 in
theorem index1 (s : ByteArray) (c : UInt8) (w : World) :
    Calls Tryz.prog 87 #[.string s, .string ⟨#[c]⟩] w fun e w' => e = .returned (.int .i64 (Lib.indexB s ⟨#[c]⟩)) ∧ w' = w := by
  go_enter Tryz.func87, Tryz.ntmps87
  go_wp2_with fail
  refine (Tryz.stringslite_Index_one s c _).mono ?_
  rintro e w' ⟨rfl, rfl⟩
  go_wp2_with fail
  go_ret
  exact ⟨ret_eq (by rw [← Lib.index_one]; rfl), rfl⟩
theorem infoStr : (Tryz.prog.info? 9).map (fun i => (i.zero, i.size, i.bytes)) = some (some (.string ByteArray.empty), 1, 16) := by kernel_rfl
set_option maxRecDepth 20000 in
theorem split1 (s : ByteArray) (w : World) (hs : s.size < 4294967281) :
    Calls Tryz.prog 60 #[.string s, .string ⟨#[32]⟩] w fun e w' => ∃ g, e = .returned (.slice (some ⟨g, 0, none⟩) (wordsB s).length (wordsB s).length) ∧ w.heap.size ≤ g ∧ SWd w' (some ⟨g, 0, none⟩) (wordsB s) ∧ Chg [] w w' := by
  have h1 : (1:Nat) ≤ (⟨#[32]⟩ : ByteArray).size := by decide
  have hle := Lib.countB_le ⟨#[32]⟩ h1 s.size s (Nat.le_refl _)
  have hlen := wordsB_len s
  have c : Calls Tryz.prog 90 #[.string s, .string ⟨#[32]⟩, .int .i64 (0 : Nat), .int .i64 (-1)] w fun e w' =>
      e = .returned (.slice (some ⟨w.heap.size, 0, none⟩) (Lib.splitB ⟨#[32]⟩ 0 (Lib.countB s ⟨#[32]⟩ + 1 - 1) s).length (Lib.countB s ⟨#[32]⟩ + 1)) ∧ w' = w.alloc (.cells (Lib.cellsOf (Lib.splitB ⟨#[32]⟩ 0 (Lib.countB s ⟨#[32]⟩ + 1 - 1) s) (Lib.countB s ⟨#[32]⟩ + 1)) 9) :=
    Any.strings_genSplit_core Tryz.lays221 infoStr s ⟨#[32]⟩ 0 (-1) (Lib.countB s ⟨#[32]⟩ + 1) w hs h1 (Nat.zero_le _)
      (fun x c _ => index1 x 32 _)
      ((Tryz.strings_Count_one s 32 w).mono fun e w' ⟨he, hw⟩ => ⟨by rw [he]; show _ = Ending.returned (Value.int .i64 ((Lib.count s.data.toList [32] : Nat) : Int)); rw [Lib.count_one]; rfl, hw⟩)
      (by decide) (by decide) (by rw [if_pos (by decide)]; omega)
  rw [Nat.add_sub_cancel, wordsB_split, ← hlen, Lib.cellsOf_full] at c
  go_enter Tryz.func60, Tryz.ntmps60
  go_wp2_with fail
  refine c.mono ?_
  rintro e w' ⟨rfl, hw⟩
  rw [hw]
  go_wp2_with fail
  go_ret
  refine ⟨w.heap.size, ret_eq ?_, Nat.le_refl _, SWd_new _ _ _, (Chg.refl _ _).alloc _⟩
  rw [hlen]; rfl

set_option maxRecDepth 20000 in
theorem consistsOf_any (s : ByteArray) (set : List UInt8) (hset : set.length ≤ 1000) (ha : set.all (fun b => decide (b.toNat < 128)) = true) (w : World) :
    Calls Tryz.prog 26 #[.string s, .string ⟨set.toArray⟩] w fun e w' => e = .returned (.bool (consB s set)) ∧ Chg [] w w' := by
  go_enter Tryz.func26, Tryz.ntmps26
  go_wp2_with fail
  refine (Tryz.strings_TrimLeft s ⟨set.toArray⟩ _ (by show set.toArray.size < _; simp; omega) (ascii_of_all (by simpa using ha))).mono ?_
  rintro e w' ⟨rfl, hb⟩
  have c1 := Chg.of_below hb
  clear hb
  rw [show (⟨set.toArray⟩ : ByteArray).data.toList = set by simp]
  go_wp2_with fail
  go_ret
  exact ⟨ret_eq (by show Value.bool ((Lib.trimLeftS s.data.toList set).toArray.toList.isEmpty) = _; rw [List.toList_toArray]; rfl), c1⟩
set_option maxRecDepth 20000 in
theorem isUpTo_any (n top : Int) (w : World) :
    Calls Tryz.prog 30 #[.int .i64 n, .int .i64 top] w fun e w' => e = .returned (.bool (upB n top)) ∧ w' = w := by
  by_cases h : 0 ≤ n
  · have d1 : decide (0 ≤ n) = true := by simpa using h
    go_enter Tryz.func30, Tryz.ntmps30
    go_wp2
    go_ret
    exact ⟨ret_eq (by unfold upB; rw [d1]; rfl), rfl⟩
  · have d1 : decide (0 ≤ n) = false := by simpa using h
    go_enter Tryz.func30, Tryz.ntmps30
    go_wp2
    go_ret
    exact ⟨ret_eq (by unfold upB; rw [d1]; rfl), rfl⟩

set_option maxRecDepth 20000 in
theorem isCode_any (s : ByteArray) (w : World) :
    Calls Tryz.prog 31 #[.string s] w fun e w' => e = .returned (.bool (codeB s)) ∧ Chg [] w w' := by
  have HC := Lib.hid (codeB_cons s)
  by_cases h : s.size = 3
  · have d1 : ((s.size : Int) == 3) = true := by simp; omega
    obtain ⟨b, HB⟩ := name_it (consB s capitalsL)
    go_enter Tryz.func31, Tryz.ntmps31
    go_wp2_with (go_at_call 26; refine (consistsOf_any s capitalsL (by decide) (by decide) _).mono ?_; rintro e w' ⟨rfl, hc⟩; rw [HB.out])
    go_ret
    exact ⟨ret_eq (by rw [HC.out, HB.out, decide_eq_true h]; rfl), hc⟩
  · have d1 : ((s.size : Int) == 3) = false := by simp; omega
    go_enter Tryz.func31, Tryz.ntmps31
    go_wp2
    go_ret
    exact ⟨ret_eq (by rw [HC.out, decide_eq_false h]; rfl), Chg.refl _ _⟩
theorem str_emp (s : ByteArray) : s.toList.isEmpty = decide (s.size = 0) := by
  rw [Lib.toList_data, Lib.size_eq]
  cases s.data.toList <;> simp
set_option maxRecDepth 20000 in
theorem isName_any (s : ByteArray) (w : World) :
    Calls Tryz.prog 12 #[.string s] w fun e w' => e = .returned (.bool (nameB s)) ∧ Chg [] w w' := by
  have HC := Lib.hid (nameB_cons s)
  by_cases h0 : s.size = 0
  · have d0 : s.toList.isEmpty = true := by rw [str_emp]; simpa using h0
    go_enter Tryz.func12, Tryz.ntmps12
    go_wp2
    go_ret
    exact ⟨ret_eq (by rw [HC.out, decide_eq_false (by omega)]; rfl), Chg.refl _ _⟩
  · have d0 : s.toList.isEmpty = false := by rw [str_emp]; simpa using h0
    by_cases h1 : s.size ≤ 32
    · have d1 : decide ((s.size : Int) ≤ 32) = true := by simp; omega
      obtain ⟨b, HB⟩ := name_it (consB s namesL)
      obtain ⟨u, HU⟩ := name_it (s.extract 0 1)
      obtain ⟨a, HA⟩ := name_it (consB u lettersL)
      cases a with
      | false =>
        go_enter Tryz.func12, Tryz.ntmps12
        go_wp2_with (first
          | (go_at_call 26; rw [HU.out]; refine (consistsOf_any u lettersL (by decide) (by decide) _).mono ?_; rintro e w' ⟨rfl, hc⟩; rw [HA.out])
          | fail)
        all_goals try (exfalso; omega)
        go_ret
        exact ⟨ret_eq (by rw [HC.out, HU.out, HA.out]; simp), hc⟩
      | true =>
        go_enter Tryz.func12, Tryz.ntmps12
        go_wp2_with (first
          | (go_at_call 26; rw [HU.out]; refine (consistsOf_any u lettersL (by decide) (by decide) _).mono ?_; rintro e w' ⟨rfl, hc⟩; rw [HA.out])
          | (go_at_call 26; refine (consistsOf_any s namesL (by decide) (by decide) _).mono ?_; rintro e w' ⟨rfl, hd⟩; rw [HB.out])
          | fail)
        all_goals try (exfalso; omega)
        go_ret
        exact ⟨ret_eq (by rw [HC.out, HU.out, HA.out, HB.out, decide_eq_true h1, decide_eq_true (by omega)]; simp), hc.then hd⟩
    · have d1 : decide ((s.size : Int) ≤ 32) = false := by simp; omega
      go_enter Tryz.func12, Tryz.ntmps12
      go_wp2
      go_ret
      exact ⟨ret_eq (by rw [HC.out, decide_eq_false h1]; simp), Chg.refl _ _⟩
end Go.Proofs.YtogciehmdlfkfaaGreatDoor

/- Part DX2. -/

namespace Go.Proofs.YtogciehmdlfkfaaGreatDoor
open Go.RowKit Nd

theorem pE_zero {l : List UInt8} (h : pE l = 0) : canD l = true ∧ l.length ≤ 2000 := by
  unfold pE at h
  split at h
  · rename_i h1
    split at h
    · cases h
    · exact ⟨h1, by omega⟩
  · cases h
theorem dE_zero {l : List UInt8} (h : dE l = 0) : l.all isD = true ∧ l.length ≤ 2000 := by
  unfold dE at h
  split at h
  · cases h
  · split at h
    · rename_i h1
      split at h
      · cases h
      · exact ⟨h1, by omega⟩
    · cases h
theorem dv_le {l : List UInt8} {K : Nat} (h : l.all isD = true) (hl : l.length ≤ K) : dv l < 256 ^ K :=
  Nat.lt_of_lt_of_le (dv_lt l h) (Nat.le_trans (Nat.pow_le_pow_left (by omega) _) (Nat.pow_le_pow_right (by omega) hl))
theorem Bd_nil (K : Nat) (hK : 1 ≤ K) : Bd K 0 := Bd_zero.mono hK
theorem quo_bd (neg : Bool) (l m : List UInt8) (K : Nat) (hK : 4000 ≤ K) : Bd K (quoQ neg l m) := by
  unfold quoQ
  split
  · rename_i h
    unfold quoE at h
    split at h
    · rename_i h1; exact absurd h h1
    · rename_i h1
      obtain ⟨ha, hb⟩ := firstE_zero (by simpa using h1)
      split at h
      · cases h
      · rename_i h2
        obtain ⟨c1, l1⟩ := pE_zero ha
        obtain ⟨c2, l2⟩ := pE_zero hb
        exact Bd_sq h2 (dv_le (canD_all c1) (by omega)) (dv_le (canD_all c2) (by omega))
  · exact Bd_nil K (by omega)
theorem dec_bd (neg : Bool) (l m : List UInt8) (K : Nat) (hK : 4001 ≤ K) : Bd K (decQ neg l m) := by
  unfold decQ
  split
  · rename_i h
    obtain ⟨ha, hb⟩ := firstE_zero h
    obtain ⟨c1, l1⟩ := pE_zero ha
    obtain ⟨c2, l2⟩ := dE_zero hb
    have hall : (l ++ m).all isD = true := by rw [List.all_append, canD_all c1, c2]; rfl
    have h1 := dv_le (K := K) hall (by rw [List.length_append]; omega)
    rw [dv_append] at h1
    refine Bd_sq (by have := Nat.pow_pos (n := m.length) (show 0 < 10 by omega); omega) ?_ ?_
    · rw [Nat.mul_comm]; omega
    · exact Nat.lt_of_lt_of_le (Nat.pow_lt_pow_right (by omega) (Nat.lt_succ_self m.length)) (Nat.le_trans (Nat.pow_le_pow_left (by omega) _) (Nat.pow_le_pow_right (by omega) (by omega)))
  · exact Bd_nil K (by omega)
theorem parse_bd (l : List UInt8) (K : Nat) (hK : 4001 ≤ K) : Bd K (parseP l).2 := by
  unfold parseP
  split
  · exact quo_bd _ _ _ K (by omega)
  · split
    · exact dec_bd _ _ _ K hK
    · exact quo_bd _ _ _ K (by omega)
theorem Enc.val {x : Q3} {q : Rat} {K : Nat} (h : Enc x q) (hb : Bd K q) : Val x q K := ⟨h, hb⟩
theorem sg_neg (q : Rat) : sg q < 0 ↔ q < 0 := by
  unfold sg
  by_cases h : q < 0
  · simp [h]
  · simp only [h, if_false, iff_false]
    split <;> simp
theorem sg_zero (q : Rat) : sg q = 0 ↔ q = 0 := by
  unfold sg
  by_cases h : q < 0
  · simp only [h, if_true]
    constructor
    · intro h2; cases h2
    · rintro rfl; exact absurd h (by decide)
  · simp only [h, if_false]
    split
    · rename_i h2; simp [h2]
    · rename_i h2; simp [h2]

set_option maxRecDepth 20000 in
set_option maxHeartbeats 1000000 in
theorem quantity_any (s : ByteArray) (w : World) (hs : s.size ≤ 1099511627776) :
    Calls Tryz.prog 119 #[.string s] w fun e w' => ∃ x : Q3, e = .returned (.tuple #[.agg #[.bool x.neg, .string x.num, .string x.den], .int .i64 (qtyE s)]) ∧ Enc x (qtyQ s) ∧ Chg [] w w' := by
  have b0 := Blk3.alloc w (.bool false) (.string ⟨#[]⟩) (.string ⟨#[]⟩) 25
  have hch : Chg [] w (w.alloc (.cells #[.bool false, .string ⟨#[]⟩, .string ⟨#[]⟩] 25)) := (Chg.refl _ _).alloc _
  obtain ⟨r, HR⟩ := name_it (parseP s.data.toList).1
  obtain ⟨q, HQ⟩ := name_it (parseP s.data.toList).2
  have HB := Lib.hid (parse_bd s.data.toList 4001 (Nat.le_refl _))
  obtain ⟨E, HE⟩ := name_it (qtyE s)
  obtain ⟨Q, HQQ⟩ := name_it (qtyQ s)
  rw [HE.out, HQQ.out]
  go_enter Tryz.func119, Tryz.ntmps119
  go_wp2_with fail
  obtain ⟨w0, HW0⟩ := name_it (w.alloc (.cells #[.bool false, .string ⟨#[]⟩, .string ⟨#[]⟩] 25))
  rw [HW0.out] at b0 hch ⊢
  refine (Parse_any s _ hs).mono ?_
  rintro e w1 ⟨x, rfl, hx, c1⟩
  rw [HR.out]
  rw [HQ.out] at hx
  have hb := HB.out
  rw [HQ.out] at hb
  have HN := Lib.hid (hx.val hb)
  clear hb
  replace b0 := b0.keep c1 (by simp)
  replace hch := hch.then c1
  clear c1
  have HX := Lib.hid hx
  clear hx
  have hE : r ≠ 0 → E = r ∧ Q = q := by
    intro h
    rw [← HE.out, ← HQQ.out]; unfold qtyE qtyQ
    rw [HR.out, HQ.out, if_neg (by simp [h]), if_neg (by simp [h])]; exact ⟨rfl, rfl⟩
  have hE0 : r = 0 → q < 0 → E = 7 ∧ Q = 0 := by
    intro h h2
    rw [← HE.out, ← HQQ.out]; unfold qtyE qtyQ
    rw [HR.out, HQ.out, if_pos ⟨h, h2⟩, if_pos ⟨h, h2⟩]; exact ⟨rfl, rfl⟩
  have hE1 : r = 0 → ¬ q < 0 → E = 0 ∧ Q = q := by
    intro h h2
    rw [← HE.out, ← HQQ.out]; unfold qtyE qtyQ
    rw [HR.out, HQ.out, if_neg (by simp [h2]), if_neg (by simp [h2])]; exact ⟨h, rfl⟩
  obtain ⟨xn, xN, xD⟩ := x
  have b1 := Blk3.alloc w1 (.bool xn) (.string xN) (.string xD) 25
  have c2 : Chg [] w1 (w1.alloc (.cells #[.bool xn, .string xN, .string xD] 25)) := (Chg.refl _ _).alloc _
  replace b0 := b0.keep c2 (by simp)
  replace hch := hch.then c2
  clear c2
  have HEa := Lib.hid hE
  have HEb := Lib.hid hE0
  have HEc := Lib.hid hE1
  clear hE hE0 hE1
  by_cases hr : r = 0
  · subst hr
    by_cases hq : q < 0
    · obtain ⟨h1, h2⟩ := HEb.out rfl hq
      have hsg : sg q < 0 := (sg_neg q).2 hq
      have HS := Lib.hid hsg
      have b0c0 := b0.c0
      have b0c1 := b0.c1
      have b0c2 := b0.c2
      have b0f0 := b0.f0
      have b0f1 := b0.f1
      have b0f2 := b0.f2
      have b0l := b0.lt
      have b1c0 := b1.c0
      have b1c1 := b1.c1
      have b1c2 := b1.c2
      have b1f0 := b1.f0
      have b1f1 := b1.f1
      have b1f2 := b1.f2
      have b1l := b1.lt
      go_wp2_with (go_at_call 32; refine (SignN ⟨xn, xN, xD⟩ q 4001 _ HN.out.num (by omega)).mono ?_; rintro e w3 ⟨rfl, c3⟩; replace b0 := b0.keep c3 (by simp); replace b1 := b1.keep c3 (by simp); replace hch := hch.then c3; have d1 : decide (sg q < 0) = true := decide_eq_true HS.out; have b0c0 := b0.c0; have b0c1 := b0.c1; have b0c2 := b0.c2; have b0f0 := b0.f0; have b0f1 := b0.f1; have b0f2 := b0.f2; have b0l := b0.lt; have b1c0 := b1.c0; have b1c1 := b1.c1; have b1c2 := b1.c2)
      have S := b0.store (.bool false) (.string ⟨#[]⟩) (.string ⟨#[]⟩)
      rw [h1]
      exact bodyPost_ret (v := .tuple #[.agg #[.bool false, .string ⟨#[]⟩, .string ⟨#[]⟩], .int .i64 (_)]) (by simp [results, Tryz.results119, go_sem, S.c0, S.c1, S.c2]) rfl ⟨q0, rfl, by rw [h2]; exact Enc_zero, hch.store3 (.inr (Nat.le_refl _)) _ _ _⟩
    · obtain ⟨h1, h2⟩ := HEc.out rfl hq
      have hsg : ¬ sg q < 0 := fun h => hq ((sg_neg q).1 h)
      have HS := Lib.hid hsg
      have HQ2 := Lib.hid h2
      clear hq hsg h2
      have b0c0 := b0.c0
      have b0c1 := b0.c1
      have b0c2 := b0.c2
      have b0f0 := b0.f0
      have b0f1 := b0.f1
      have b0f2 := b0.f2
      have b0l := b0.lt
      have b1c0 := b1.c0
      have b1c1 := b1.c1
      have b1c2 := b1.c2
      have b1f0 := b1.f0
      have b1f1 := b1.f1
      have b1f2 := b1.f2
      have b1l := b1.lt
      go_wp2_with fail
      refine (SignN ⟨xn, xN, xD⟩ q 4001 _ HN.out.num (by omega)).mono ?_
      rintro e w3 ⟨rfl, c3⟩
      replace b0 := b0.keep c3 (by simp)
      replace b1 := b1.keep c3 (by simp)
      replace hch := hch.then c3
      have d1 : decide (sg q < 0) = false := decide_eq_false (by have := HS.out; omega)
      have b0c0 := b0.c0
      have b0c1 := b0.c1
      have b0c2 := b0.c2
      have b0f0 := b0.f0
      have b0f1 := b0.f1
      have b0f2 := b0.f2
      have b0l := b0.lt
      have b1c0 := b1.c0
      have b1c1 := b1.c1
      have b1c2 := b1.c2
      go_wp2_with fail
      have S := b0.store (.bool xn) (.string xN) (.string xD)
      rw [h1]
      exact bodyPost_ret (v := .tuple #[.agg #[.bool xn, .string xN, .string xD], .int .i64 (_)]) (by simp [results, Tryz.results119, go_sem, S.c0, S.c1, S.c2]) rfl ⟨⟨xn, xN, xD⟩, rfl, by rw [HQ2.out]; exact HX.out, hch.store3 (.inr (Nat.le_refl _)) _ _ _⟩
  · obtain ⟨h1, h2⟩ := HEa.out hr
    have d0 : (r == 0) = false := by simpa using hr
    have b0c0 := b0.c0
    have b0c1 := b0.c1
    have b0c2 := b0.c2
    have b0f0 := b0.f0
    have b0f1 := b0.f1
    have b0f2 := b0.f2
    have b0l := b0.lt
    have b1c0 := b1.c0
    have b1c1 := b1.c1
    have b1c2 := b1.c2
    have b1f0 := b1.f0
    have b1f1 := b1.f1
    have b1f2 := b1.f2
    have b1l := b1.lt
    go_wp2_with fail
    have S := b0.store (.bool xn) (.string xN) (.string xD)
    rw [h1]
    exact bodyPost_ret (v := .tuple #[.agg #[.bool xn, .string xN, .string xD], .int .i64 (_)]) (by simp [results, Tryz.results119, go_sem, S.c0, S.c1, S.c2]) rfl ⟨⟨xn, xN, xD⟩, rfl, by rw [h2]; exact HX.out, hch.store3 (.inr (Nat.le_refl _)) _ _ _⟩
set_option maxRecDepth 20000 in
theorem number_any (s : ByteArray) (top : Int) (w : World) (hn : numB s = true) (_ : 0 ≤ top) :
    Calls Tryz.prog 92 #[.string s, .int .i64 top] w fun e w' => e = .returned (.tuple #[.int .i64 (numI s top), .int .i64 (numE s top)]) ∧ Chg [] w w' := by
  have hn2 := hn
  simp only [numB, Bool.and_eq_true, decide_eq_true_eq] at hn2
  have HA := Lib.hid (atoi_dv hn2.1)
  have hz : s.size ≤ 18 := by omega
  have hlt := numV_lt hn
  clear hn hn2
  obtain ⟨n, HV⟩ := name_it (numV s)
  rw [HV.out] at hlt
  have hA : Hid (Lib.atoi s.data.toList = some (n : Int)) := by show _ = _; rw [HA.out, ← HV.out]; rfl
  by_cases hle : (n : Int) ≤ top
  · have HU : Hid (upB n top = true) := by show _ = _; unfold upB; simp; omega
    go_enter Tryz.func92, Tryz.ntmps92
    go_wp2_with fail
    refine (Tryz.strconv_Atoi s n hz hA.out _).mono ?_
    rintro e w1 ⟨rfl, t, hw⟩
    have c1 : Chg [] w w1 := by rw [hw]; exact Chg.of_below (Go.Joins.below_bytesWorld _ _ _ _ (Nat.le_refl _))
    clear hw
    go_wp2_with (go_at_call 30; refine (isUpTo_any n top _).mono ?_; rintro e w3 ⟨rfl, rfl⟩; rw [HU.out])
    go_ret2
    exact ⟨ret_eq (by unfold numI numE; rw [HV.out, if_pos hle, if_pos hle]; rfl), c1⟩
  · have HU : Hid (upB n top = false) := by show _ = _; unfold upB; simp; omega
    go_enter Tryz.func92, Tryz.ntmps92
    go_wp2_with fail
    refine (Tryz.strconv_Atoi s n hz hA.out _).mono ?_
    rintro e w1 ⟨rfl, t, hw⟩
    have c1 : Chg [] w w1 := by rw [hw]; exact Chg.of_below (Go.Joins.below_bytesWorld _ _ _ _ (Nat.le_refl _))
    clear hw
    go_wp2_with (go_at_call 30; refine (isUpTo_any n top _).mono ?_; rintro e w3 ⟨rfl, rfl⟩; rw [HU.out])
    go_ret2
    exact ⟨ret_eq (by unfold numI numE; rw [HV.out, if_neg (by omega), if_neg (by omega)]; rfl), c1⟩
theorem numB_eq (s : ByteArray) (h0 : s.size ≠ 0) (h9 : s.size ≤ 9) : numB s = (consB s digitsL && (decide (s.toList = [48]) || decide (byt s 0 ≠ 48))) := by
  have hl : s.data.toList.length = s.size := by simp
  have hall : consB s digitsL = s.data.toList.all isD := by
    unfold consB Lib.trimLeftS
    rw [Bool.eq_iff_iff, List.isEmpty_iff, dw_nil, List.all_eq_true]
    constructor
    · intro h x hx; have := h x hx; rw [digitsL_is] at this; exact this
    · intro h x hx; rw [digitsL_is]; exact h x hx
  unfold numB canD
  rw [hall, decide_eq_true h9, Bool.and_true, Lib.toList_data]
  unfold byt
  cases hs : s.data.toList with
  | nil => rw [hs] at hl; simp at hl; omega
  | cons b l =>
    simp only [List.isEmpty_cons, Bool.not_false, Bool.true_and, List.head?_cons, List.getD_cons_zero]
    cases h1 : (b :: l).all isD with
    | false => rfl
    | true =>
      simp only [Bool.true_and]
      by_cases hb : b = 48
      · subst hb
        cases l <;> simp
      · have : b.toNat ≠ 48 := fun he => hb (UInt8.toNat_inj.1 he)
        simp [hb, this]
set_option maxRecDepth 20000 in
theorem isNumber_any (s : ByteArray) (w : World) :
    Calls Tryz.prog 117 #[.string s] w fun e w' => e = .returned (.bool (numB s)) ∧ Chg [] w w' := by
  by_cases h0 : s.size = 0
  · have d0 : s.toList.isEmpty = true := by rw [str_emp]; simpa using h0
    go_enter Tryz.func117, Tryz.ntmps117
    go_wp2
    go_ret
    exact ⟨ret_eq (by
      have : s.data.toList = [] := List.eq_nil_of_length_eq_zero (by simpa using h0)
      unfold numB; rw [this]; rfl), Chg.refl _ _⟩
  · have d0 : s.toList.isEmpty = false := by rw [str_emp]; simpa using h0
    by_cases h9 : s.size ≤ 9
    · have d9 : decide (9 < (s.size : Int)) = false := by simp; omega
      have HC := Lib.hid (numB_eq s h0 h9)
      obtain ⟨b, HB⟩ := name_it (consB s digitsL)
      cases b with
      | false =>
        go_enter Tryz.func117, Tryz.ntmps117
        go_wp2_with (go_at_call 26; refine (consistsOf_any s digitsL (by decide) (by decide) _).mono ?_; rintro e w' ⟨rfl, hc⟩; rw [HB.out])
        go_ret
        exact ⟨ret_eq (by rw [HC.out, HB.out]; simp), hc⟩
      | true =>
        obtain ⟨c, HCC⟩ := name_it (byt s 0)
        have hix : ∀ W, (Instr.index 9 (.string s) (.int .i64 0)).run Tryz.prog W = .ok (.int .u8 (c : Int)) W := fun W => idx_str s 0 c (by omega) HCC.out W
        by_cases hz : s.toList = [48]
        · have dz : (s.toList == [48]) = true := by simpa using hz
          have HZ := Lib.hid hz
          clear hz
          go_enter Tryz.func117, Tryz.ntmps117
          go_wp2_with (go_at_call 26; refine (consistsOf_any s digitsL (by decide) (by decide) _).mono ?_; rintro e w' ⟨rfl, hc⟩; rw [HB.out])
          go_ret
          exact ⟨ret_eq (by rw [HC.out, HB.out, decide_eq_true HZ.out]; simp), hc⟩
        · have dz : (s.toList == [48]) = false := by simpa using hz
          have HZ := Lib.hid hz
          clear hz
          obtain ⟨u, HU⟩ := name_it (decide (c ≠ 48))
          have du : ((c : Int) != 48) = u := by
            rw [← HU.out]
            by_cases h : c = 48
            · subst h; rfl
            · rw [decide_eq_true h]; simp; omega
          go_enter Tryz.func117, Tryz.ntmps117
          go_wp2_with (go_at_call 26; refine (consistsOf_any s digitsL (by decide) (by decide) _).mono ?_; rintro e w' ⟨rfl, hc⟩; rw [HB.out])
          go_ret
          exact ⟨ret_eq (by rw [HC.out, HB.out, decide_eq_false HZ.out, HCC.out, HU.out]; simp), hc⟩
    · have d9 : decide (9 < (s.size : Int)) = true := by simp; omega
      go_enter Tryz.func117, Tryz.ntmps117
      go_wp2
      go_ret
      exact ⟨ret_eq (by unfold numB; rw [decide_eq_false h9]; simp), Chg.refl _ _⟩
end Go.Proofs.YtogciehmdlfkfaaGreatDoor

/- Part DX4. -/

namespace Go.Proofs.YtogciehmdlfkfaaGreatDoor
open Go.RowKit Nd

theorem lit_eqB (s t : ByteArray) : (s.toList == t.data.toList) = decide (s = t) := by
  rw [Bool.eq_iff_iff, decide_eq_true_iff, beq_iff_eq, Lib.toList_data]
  constructor
  · intro h; exact ByteArray.ext (Array.toList_inj.1 h)
  · rintro rfl; rfl
theorem str_eqB (s t : ByteArray) : (s.toList == t.toList) = decide (s = t) := by rw [Lib.toList_data t]; exact lit_eqB s t
set_option maxRecDepth 20000 in
set_option maxHeartbeats 4000000 in
theorem hasForm_any (ws f : List ByteArray) (A B : Option Addr) (n m c d : Nat) (w : World) (hn : ws.length = n) (hm : f.length = m) (hn2 : n ≤ 4294967296) (hm2 : m ≤ 4294967296) (hw : SWd w A ws) (hf : SWd w B f) :
    Calls Tryz.prog 91 #[.slice A n c, .slice B m d] w fun e w' => e = .returned (.bool (hasF ws f)) ∧ Chg [] w w' := by
  obtain ⟨r, HR⟩ := name_it (hasF ws f)
  have HRR : Hid (r = hasF ws f) := HR.out.symm
  rw [HR.out]
  have HHn := Lib.hid hn
  have HHm := Lib.hid hm
  by_cases he : n = m
  · subst he
    clear hn hm
    go_enter Tryz.func91, Tryz.ntmps91
    go_wp2
    go_loopw [14] (fun iv wr => ∃ i : Nat, i ≤ n ∧ iv = .int .i64 i ∧ (∀ j, j < i → fitW (f.getD j wd0) (ws.getD j wd0) = true) ∧ SWd wr A ws ∧ SWd wr B f ∧ Chg [] w wr) (fun iv _ => n - (intOf iv).toNat)
    case atStart => exact ⟨0, by omega, rfl, fun j hj => absurd hj (by omega), hw, hf, Chg.refl _ _⟩
    case round =>
      obtain ⟨i, hi, rfl, hall, hwr, hfr, hch⟩ := hrel
      have HA := Lib.hid hall
      clear hall
      by_cases hlt : i < n
      · obtain ⟨p, HP⟩ := name_it (f.getD i wd0)
        obtain ⟨v, HV⟩ := name_it (ws.getD i wd0)
        have hfr0 := hfr
        have hwr0 := hwr
        obtain ⟨g1, o1, rfl, l1, k1⟩ := hfr (by rw [HHm.out]; omega)
        obtain ⟨g2, o2, rfl, l2, k2⟩ := hwr (by rw [HHn.out]; omega)
        have x1 : wr.cell? ⟨g1, o1 + i, none⟩ = some (.string p) := by have := (k1 i (by rw [HHm.out]; omega)).c0; rwa [HP.out, Nat.mul_one] at this
        have x2 : wr.cell? ⟨g2, o2 + i, none⟩ = some (.string v) := by have := (k2 i (by rw [HHn.out]; omega)).c0; rwa [HV.out, Nat.mul_one] at this
        have HF1 := Lib.hid hfr0
        have HW1 := Lib.hid hwr0
        clear k1 k2 hfr0 hwr0 hw hf
        have HB : Hid (fitW p v = false → r = false) := by
          show _ → _
          intro hbad
          rw [HRR.out]; unfold hasF
          rw [Bool.and_eq_false_iff]
          refine .inr (decide_eq_false fun h => ?_)
          have := h i (by rw [HHm.out]; omega)
          rw [HP.out, HV.out, hbad] at this; cases this
        have HG : Hid (fitW p v = true → ∀ j, j < i + 1 → fitW (f.getD j wd0) (ws.getD j wd0) = true) := by
          show _ → _
          intro hg j hj
          by_cases hji : j = i
          · rw [hji, HP.out, HV.out]; exact hg
          · exact HA.out j (by omega)
        clear HA
        have q1 : (p.toList == [73, 68]) = decide (p = sID) := lit_eqB p sID
        have q2 : (p.toList == [67, 79, 68, 69]) = decide (p = sCODE) := lit_eqB p sCODE
        have q3 : (p.toList == [82]) = decide (p = sR) := lit_eqB p sR
        have q4 : (p.toList == [78]) = decide (p = sN) := lit_eqB p sN
        have q5 : (v.toList == p.toList) = decide (v = p) := str_eqB v p
        by_cases h0 : p = sID
        · have hfit : fitW p v = true := by unfold fitW; rw [if_pos (by simp [h0])]
          rw [decide_eq_true h0] at q1
          have c3 : Chg [] wr wr := Chg.refl _ _
          clear h0
          go_wp2
          go_roundw
          · exact ⟨i + 1, by omega, rfl, HG.out hfit, HW1.out.keep0 c3, HF1.out.keep0 c3, hch.then c3⟩
          · simp [intOf]; omega
        · have h0q := decide_eq_false h0
          by_cases h1 : p = sCODE
          · have hfit : fitW p v = true := by unfold fitW; rw [if_pos (by simp [h1])]
            rw [decide_eq_false h0] at q1
            rw [decide_eq_true h1] at q2
            have c3 : Chg [] wr wr := Chg.refl _ _
            clear h0 h1
            go_wp2
            go_roundw
            · exact ⟨i + 1, by omega, rfl, HG.out hfit, HW1.out.keep0 c3, HF1.out.keep0 c3, hch.then c3⟩
            · simp [intOf]; omega
          · have h1q := decide_eq_false h1
            by_cases h2 : p = sR
            · have hfit : fitW p v = true := by unfold fitW; rw [if_pos (by simp [h2])]
              rw [decide_eq_false h0] at q1
              rw [decide_eq_false h1] at q2
              rw [decide_eq_true h2] at q3
              have c3 : Chg [] wr wr := Chg.refl _ _
              clear h0 h1 h2
              go_wp2
              go_roundw
              · exact ⟨i + 1, by omega, rfl, HG.out hfit, HW1.out.keep0 c3, HF1.out.keep0 c3, hch.then c3⟩
              · simp [intOf]; omega
            · have h2q := decide_eq_false h2
              rw [h0q] at q1
              rw [h1q] at q2
              rw [h2q] at q3
              have hno : ¬ (p = sID ∨ p = sCODE ∨ p = sR) := by simp [h0, h1, h2]
              clear h0q h1q h2q
              by_cases h3 : p = sN
              · rw [decide_eq_true h3] at q4
                have hfe : fitW p v = numB v := by unfold fitW; rw [if_neg hno, if_pos h3]
                clear h0 h1 h2 h3 hno q5
                have HFE := Lib.hid hfe
                clear hfe
                obtain ⟨b, HBB⟩ := name_it (numB v)
                cases b with
                | true =>
                  have hfit : fitW p v = true := HFE.out.trans HBB.out
                  have HFT := Lib.hid hfit
                  clear hfit
                  go_wp2_with (go_at_call 117; refine (isNumber_any v _).mono ?_; rintro e w3 ⟨rfl, c3⟩; rw [HBB.out])
                  have hfit := HFT.out
                  go_roundw
                  · exact ⟨i + 1, by omega, rfl, HG.out hfit, HW1.out.keep0 c3, HF1.out.keep0 c3, hch.then c3⟩
                  · simp [intOf]; omega
                | false =>
                  have hr := HB.out (HFE.out.trans HBB.out)
                  have HRF := Lib.hid hr
                  clear hr
                  go_wp2_with (go_at_call 117; refine (isNumber_any v _).mono ?_; rintro e w3 ⟨rfl, c3⟩; rw [HBB.out])
                  go_ret
                  exact ⟨ret_eq (by rw [HRF.out]; rfl), hch.then c3⟩
              · rw [decide_eq_false h3] at q4
                have hfe : fitW p v = decide (v = p) := by unfold fitW; rw [if_neg hno, if_neg h3]
                clear h0 h1 h2 h3 hno
                by_cases h4 : v = p
                · rw [decide_eq_true h4] at q5 hfe
                  have HFT := Lib.hid hfe
                  have c3 : Chg [] wr wr := Chg.refl _ _
                  clear h4 hfe
                  go_wp2
                  have hfit := HFT.out
                  go_roundw
                  · exact ⟨i + 1, by omega, rfl, HG.out hfit, HW1.out.keep0 c3, HF1.out.keep0 c3, hch.then c3⟩
                  · simp [intOf]; omega
                · rw [decide_eq_false h4] at q5 hfe
                  have hr := HB.out hfe
                  have HRF := Lib.hid hr
                  clear h4 hfe hr
                  go_wp2
                  go_ret
                  exact ⟨ret_eq (by rw [HRF.out]; rfl), hch⟩
      · have hr : r = true := by
          rw [HRR.out]; unfold hasF
          rw [decide_eq_true (by rw [HHn.out, HHm.out]), Bool.true_and]
          exact decide_eq_true fun j hj => HA.out j (by rw [HHm.out] at hj; omega)
        have HRF := Lib.hid hr
        have dl : decide ((i : Int) < (n : Int)) = false := by simp; omega
        clear hr
        go_wp2
        go_ret
        exact ⟨ret_eq (by rw [HRF.out]; rfl), hch⟩
  · have hr : r = false := by
      rw [HRR.out]; unfold hasF
      rw [decide_eq_false (by rw [hn, hm]; exact he), Bool.false_and]
    have HRF := Lib.hid hr
    have dl : ((n : Int) != (m : Int)) = true := by simp; omega
    clear hr
    go_enter Tryz.func91, Tryz.ntmps91
    go_wp2
    go_ret
    exact ⟨ret_eq (by rw [HRF.out]; rfl), Chg.refl _ _⟩
end Go.Proofs.YtogciehmdlfkfaaGreatDoor

/- Part DX5. -/

namespace Go.Proofs.YtogciehmdlfkfaaGreatDoor
open Go.RowKit Nd

/-- What the package-level variables hold. -/
structure Gl (w : World) : Prop where
  tab : Lib.TabIs Tryz.prog w "internal/strconv.uint64pow10" .u64 Lib.pow10Tab
  frm : w.var? Tryz.prog "insolvency/proof.forms" = some (formsS.map Value.string).toArray
  lt : 9 ≤ w.heap.size
theorem gTab : Tryz.prog.globalNamed "internal/strconv.uint64pow10" = some 4 := by kernel_rfl
theorem gFrm : Tryz.prog.globalNamed "insolvency/proof.forms" = some 0 := by kernel_rfl
theorem var_keep {w w' : World} {n : String} {g : Nat} {cs : Array Value} (hg : Tryz.prog.globalNamed n = some g) (hb : w'.heap[g]? = w.heap[g]?) (h : w.var? Tryz.prog n = some cs) : w'.var? Tryz.prog n = some cs := by
  unfold World.var? at h ⊢
  simp only [hg, Option.bind_some] at h ⊢
  rw [hb]; exact h
theorem Gl.keep {gs : List Nat} {w w' : World} (h : Gl w) (hc : Chg gs w w') (hg : ∀ x ∈ gs, 9 ≤ x) : Gl w' := by
  have hl := h.lt
  refine ⟨var_keep gTab (hc.block _ (by omega) (fun hm => by have := hg _ hm; omega)) h.tab, var_keep gFrm (hc.block _ (by omega) (fun hm => by have := hg _ hm; omega)) h.frm, Nat.le_trans hl hc.size⟩
theorem Gl.keep0 {w w' : World} (h : Gl w) (hc : Chg [] w w') : Gl w' := h.keep hc (fun _ h => by cases h)
def formsV : Value := .agg (formsS.map Value.string).toArray
theorem Gl.cell {w : World} (h : Gl w) (j : Nat) (hj : j < 8) : w.cell? ⟨0, j, none⟩ = some (.string (formsS.getD j wd0)) := by
  rw [var?_cell gFrm h.frm j]
  have : ∀ j, j < 8 → (formsS.map Value.string).toArray[j]? = some (.string (formsS.getD j wd0)) := by
    intro j hj
    have hl : formsS.length = 8 := rfl
    rw [List.getElem?_toArray, List.getElem?_map, List.getD_eq_getElem?_getD, List.getElem?_eq_getElem (by omega)]; rfl
  exact this j hj
def fS (j : Nat) : ByteArray := formsS.getD j wd0
theorem idx_forms (i : Nat) (hi : i < 8) (s : ByteArray) (hs : fS i = s) (W : World) : (Instr.index 111 (.agg #[.string (fS 0), .string (fS 1), .string (fS 2), .string (fS 3), .string (fS 4), .string (fS 5), .string (fS 6), .string (fS 7)]) (.int .i64 (i : Int))).run Tryz.prog W = .ok (.string s) W := by
  subst hs
  have h1 : (0:Int) ≤ i ∧ (i : Int) < ((8 : Nat) : Int) := by omega
  rcases (by omega : i = 0 ∨ i = 1 ∨ i = 2 ∨ i = 3 ∨ i = 4 ∨ i = 5 ∨ i = 6 ∨ i = 7) with rfl | rfl | rfl | rfl | rfl | rfl | rfl | rfl
  all_goals simp [Instr.index, run_underlying Tryz.underlying111, asIntOf, go_sem]
set_option maxRecDepth 20000 in
set_option maxHeartbeats 1000000 in
theorem kindOf_any (ws : List ByteArray) (A : Option Addr) (n c : Nat) (w : World) (hn : ws.length = n) (hn2 : n ≤ 4294967296) (hw : SWd w A ws) (hg : Gl w) :
    Calls Tryz.prog 61 #[.slice A n c] w fun e w' => e = .returned (.int .i64 (kindW ws)) ∧ Chg [] w w' := by
  obtain ⟨K, HK⟩ := name_it (kindW ws)
  rw [HK.out]
  have HHn := Lib.hid hn
  clear hn
  have k0 : w.cell? ⟨0, 0, none⟩ = some (.string (fS 0)) := hg.cell 0 (by omega)
  have k1 : w.cell? ⟨0, 1, none⟩ = some (.string (fS 1)) := hg.cell 1 (by omega)
  have k2 : w.cell? ⟨0, 2, none⟩ = some (.string (fS 2)) := hg.cell 2 (by omega)
  have k3 : w.cell? ⟨0, 3, none⟩ = some (.string (fS 3)) := hg.cell 3 (by omega)
  have k4 : w.cell? ⟨0, 4, none⟩ = some (.string (fS 4)) := hg.cell 4 (by omega)
  have k5 : w.cell? ⟨0, 5, none⟩ = some (.string (fS 5)) := hg.cell 5 (by omega)
  have k6 : w.cell? ⟨0, 6, none⟩ = some (.string (fS 6)) := hg.cell 6 (by omega)
  have k7 : w.cell? ⟨0, 7, none⟩ = some (.string (fS 7)) := hg.cell 7 (by omega)
  clear hg
  go_enter Tryz.func61, Tryz.ntmps61
  go_wp2
  clear k0 k1 k2 k3 k4 k5 k6 k7
  go_loopw [6] (fun iv wr => ∃ i : Nat, i ≤ 8 ∧ iv = .int .i64 i ∧ (∀ j, j < i → hasF ws (formsW.getD j []) = false) ∧ SWd wr A ws ∧ Chg [] w wr) (fun iv _ => 8 - (intOf iv).toNat)
  case atStart => exact ⟨0, by omega, rfl, fun j hj => absurd hj (by omega), hw, Chg.refl _ _⟩
  case round =>
    obtain ⟨i, hi, rfl, hall, hwr, hch⟩ := hrel
    have HA := Lib.hid hall
    clear hall hw
    by_cases hlt : i < 8
    · obtain ⟨s, HS⟩ := name_it (fS i)
      have hix := idx_forms i hlt s HS.out
      have HWD : Hid (wordsB s = formsW.getD i []) := by show _ = _; rw [← HS.out]; exact formsS_words i hlt
      have hsz : Hid (s.size ≤ 100) := by
        have : ∀ j, j < 8 → (fS j).size ≤ 100 := by decide +kernel
        show _ ≤ _
        rw [← HS.out]; exact this i hlt
      have hfl : Hid ((formsW.getD i []).length ≤ 100) := by
        have : ∀ j, j < 8 → (formsW.getD j []).length ≤ 100 := by decide +kernel
        exact this i hlt
      obtain ⟨F, HF⟩ := name_it (formsW.getD i [])
      rw [HF.out] at HWD hfl
      obtain ⟨b, HB⟩ := name_it (hasF ws F)
      have dl : decide ((i : Int) < 8) = true := by simp; omega
      cases b with
      | true =>
        have hk : Hid (K = i) := by show _ = _; rw [← HK.out]; exact kindW_at ws i hlt HA.out (by rw [HF.out]; exact HB.out)
        go_wp2_with (first
          | (go_at_call 60; refine (split1 s _ (by have := hsz.out; omega)).mono ?_; rintro e w3 ⟨g, rfl, hgs, hx, c3⟩; rw [HWD.out] at hx ⊢)
          | (go_at_call 91; refine (hasForm_any ws F A _ n _ c _ _ HHn.out rfl hn2 (by have := hfl.out; omega) (hwr.keep0 c3) hx).mono ?_; rintro e w4 ⟨rfl, c4⟩; rw [HB.out])
          | fail)
        go_ret
        exact ⟨ret_eq (by rw [hk.out]; rfl), (hch.then c3).then c4⟩
      | false =>
        have HA2 : Hid (∀ j, j < i + 1 → hasF ws (formsW.getD j []) = false) := by
          show ∀ j, _
          intro j hj
          by_cases hji : j = i
          · rw [hji, HF.out]; exact HB.out
          · exact HA.out j (by omega)
        go_wp2_with (first
          | (go_at_call 60; refine (split1 s _ (by have := hsz.out; omega)).mono ?_; rintro e w3 ⟨g, rfl, hgs, hx, c3⟩; rw [HWD.out] at hx ⊢)
          | (go_at_call 91; refine (hasForm_any ws F A _ n _ c _ _ HHn.out rfl hn2 (by have := hfl.out; omega) (hwr.keep0 c3) hx).mono ?_; rintro e w4 ⟨rfl, c4⟩; rw [HB.out])
          | fail)
        go_roundw
        · exact ⟨i + 1, by omega, rfl, HA2.out, (hwr.keep0 c3).keep0 c4, (hch.then c3).then c4⟩
        · simp [intOf]; omega
    · have hk : Hid (K = -1) := by show _ = _; rw [← HK.out]; exact kindW_none ws (fun j hj => HA.out j (by omega))
      have dl : decide ((i : Int) < 8) = false := by simp; omega
      go_wp2
      go_ret
      exact ⟨ret_eq (by rw [hk.out]; rfl), hch⟩
end Go.Proofs.YtogciehmdlfkfaaGreatDoor
