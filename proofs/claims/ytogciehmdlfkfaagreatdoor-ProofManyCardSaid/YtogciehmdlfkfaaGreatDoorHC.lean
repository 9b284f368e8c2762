/-
  Several parts put together: DK2, DX6, DX7.
-/
import Derived.Test.YtogciehmdlfkfaaGreatDoorHA
import Derived.Test.YtogciehmdlfkfaaGreatDoorHB
/- Part DK2. -/

namespace Go.Proofs.YtogciehmdlfkfaaGreatDoor
open Go.RowKit Nd

theorem cs_es : ∀ (xs : List Pf) (i : Nat) (n : Int), csPf (xs.set i { xs.getD i pf0 with es := n }) = ((csPf xs).set (i * 14 + 1) (.int .i64 n))
  | [], i, n => by simp [csPf]
  | x :: xs, 0, n => by simp [csPf]
  | x :: xs, i + 1, n => by
    rw [show (i + 1) * 14 + 1 = (i * 14 + 1) + 14 by omega]
    simp only [List.set_cons_succ, List.getD_cons_succ, csPf, cs_es xs i n]
theorem cs_cr : ∀ (xs : List Pf) (i : Nat) (n : Int), csPf (xs.set i { xs.getD i pf0 with cr := n }) = ((csPf xs).set (i * 14 + 2) (.int .i64 n))
  | [], i, n => by simp [csPf]
  | x :: xs, 0, n => by simp [csPf]
  | x :: xs, i + 1, n => by
    rw [show (i + 1) * 14 + 2 = (i * 14 + 2) + 14 by omega]
    simp only [List.set_cons_succ, List.getD_cons_succ, csPf, cs_cr xs i n]
theorem cs_inc : ∀ (xs : List Pf) (i : Nat) (n : Int), csPf (xs.set i { xs.getD i pf0 with inc := n }) = ((csPf xs).set (i * 14 + 7) (.int .i64 n))
  | [], i, n => by simp [csPf]
  | x :: xs, 0, n => by simp [csPf]
  | x :: xs, i + 1, n => by
    rw [show (i + 1) * 14 + 7 = (i * 14 + 7) + 14 by omega]
    simp only [List.set_cons_succ, List.getD_cons_succ, csPf, cs_inc xs i n]
theorem cs_rk : ∀ (xs : List Pf) (i : Nat) (n : Int), csPf (xs.set i { xs.getD i pf0 with rk := n }) = ((csPf xs).set (i * 14 + 8) (.int .i64 n))
  | [], i, n => by simp [csPf]
  | x :: xs, 0, n => by simp [csPf]
  | x :: xs, i + 1, n => by
    rw [show (i + 1) * 14 + 8 = (i * 14 + 8) + 14 by omega]
    simp only [List.set_cons_succ, List.getD_cons_succ, csPf, cs_rk xs i n]
theorem cs_rf : ∀ (xs : List Pf) (i : Nat) (n : Int), csPf (xs.set i { xs.getD i pf0 with rf := n }) = ((csPf xs).set (i * 14 + 12) (.int .i64 n))
  | [], i, n => by simp [csPf]
  | x :: xs, 0, n => by simp [csPf]
  | x :: xs, i + 1, n => by
    rw [show (i + 1) * 14 + 12 = (i * 14 + 12) + 14 by omega]
    simp only [List.set_cons_succ, List.getD_cons_succ, csPf, cs_rf xs i n]
theorem cs_sec : ∀ (xs : List Pf) (i : Nat) (n : Int), csPf (xs.set i { xs.getD i pf0 with sec := n }) = ((csPf xs).set (i * 14 + 13) (.int .i64 n))
  | [], i, n => by simp [csPf]
  | x :: xs, 0, n => by simp [csPf]
  | x :: xs, i + 1, n => by
    rw [show (i + 1) * 14 + 13 = (i * 14 + 13) + 14 by omega]
    simp only [List.set_cons_succ, List.getD_cons_succ, csPf, cs_sec xs i n]
theorem cs_cd : ∀ (xs : List Pf) (i : Nat) (s : ByteArray), csPf (xs.set i { xs.getD i pf0 with cd := s }) = ((csPf xs).set (i * 14 + 3) (.string s))
  | [], i, s => by simp [csPf]
  | x :: xs, 0, s => by simp [csPf]
  | x :: xs, i + 1, s => by
    rw [show (i + 1) * 14 + 3 = (i * 14 + 3) + 14 by omega]
    simp only [List.set_cons_succ, List.getD_cons_succ, csPf, cs_cd xs i s]
theorem cs_am : ∀ (xs : List Pf) (i : Nat) (y : Q3), csPf (xs.set i { xs.getD i pf0 with am := y }) = ((((csPf xs).set (i * 14 + 4) (.bool y.neg)).set (i * 14 + 5) (.string y.num)).set (i * 14 + 6) (.string y.den))
  | [], i, y => by simp [csPf]
  | x :: xs, 0, y => by simp [csPf]
  | x :: xs, i + 1, y => by
    rw [show (i + 1) * 14 + 4 = (i * 14 + 4) + 14 by omega, show (i + 1) * 14 + 5 = (i * 14 + 5) + 14 by omega, show (i + 1) * 14 + 6 = (i * 14 + 6) + 14 by omega]
    simp only [List.set_cons_succ, List.getD_cons_succ, csPf, cs_am xs i y]
theorem cs_rt : ∀ (xs : List Pf) (i : Nat) (y : Q3), csPf (xs.set i { xs.getD i pf0 with rt := y }) = ((((csPf xs).set (i * 14 + 9) (.bool y.neg)).set (i * 14 + 10) (.string y.num)).set (i * 14 + 11) (.string y.den))
  | [], i, y => by simp [csPf]
  | x :: xs, 0, y => by simp [csPf]
  | x :: xs, i + 1, y => by
    rw [show (i + 1) * 14 + 9 = (i * 14 + 9) + 14 by omega, show (i + 1) * 14 + 10 = (i * 14 + 10) + 14 by omega, show (i + 1) * 14 + 11 = (i * 14 + 11) + 14 by omega]
    simp only [List.set_cons_succ, List.getD_cons_succ, csPf, cs_rt xs i y]
section
variable {w : World} {g L cap : Nat} {xs : List Pf}
theorem OwnPf.fr (h : OwnPf w (.slice (some ⟨g, 0, none⟩) L cap) xs) (hL : xs.length = L) (j : Nat) : w.frozen? ⟨g, j, none⟩ = false := by
  subst hL; exact World.ownsRow.frozenAt h j
theorem OwnPf.cel (h : OwnPf w (.slice (some ⟨g, 0, none⟩) L cap) xs) {i : Nat} (hi : i < xs.length) : CPf w g (i * 14) (xs.getD i pf0) := by
  obtain ⟨A, c, e, _, _, hs⟩ := h.rds
  cases e
  have := hs.at_ hi
  rwa [Nat.zero_add] at this
theorem OwnPf.st_es (h : OwnPf w (.slice (some ⟨g, 0, none⟩) L cap) xs) (hL : xs.length = L) (i : Nat) (n : Int) : OwnPf (w.setCell ⟨g, i * 14 + 1, none⟩ (.int .i64 n)) (.slice (some ⟨g, 0, none⟩) L cap) (xs.set i { xs.getD i pf0 with es := n }) := by
  subst hL; unfold OwnPf; rw [List.length_set, cs_es]; exact (World.ownsRow.stored h _ _).1
theorem OwnPf.st_cr (h : OwnPf w (.slice (some ⟨g, 0, none⟩) L cap) xs) (hL : xs.length = L) (i : Nat) (n : Int) : OwnPf (w.setCell ⟨g, i * 14 + 2, none⟩ (.int .i64 n)) (.slice (some ⟨g, 0, none⟩) L cap) (xs.set i { xs.getD i pf0 with cr := n }) := by
  subst hL; unfold OwnPf; rw [List.length_set, cs_cr]; exact (World.ownsRow.stored h _ _).1
theorem OwnPf.st_inc (h : OwnPf w (.slice (some ⟨g, 0, none⟩) L cap) xs) (hL : xs.length = L) (i : Nat) (n : Int) : OwnPf (w.setCell ⟨g, i * 14 + 7, none⟩ (.int .i64 n)) (.slice (some ⟨g, 0, none⟩) L cap) (xs.set i { xs.getD i pf0 with inc := n }) := by
  subst hL; unfold OwnPf; rw [List.length_set, cs_inc]; exact (World.ownsRow.stored h _ _).1
theorem OwnPf.st_rk (h : OwnPf w (.slice (some ⟨g, 0, none⟩) L cap) xs) (hL : xs.length = L) (i : Nat) (n : Int) : OwnPf (w.setCell ⟨g, i * 14 + 8, none⟩ (.int .i64 n)) (.slice (some ⟨g, 0, none⟩) L cap) (xs.set i { xs.getD i pf0 with rk := n }) := by
  subst hL; unfold OwnPf; rw [List.length_set, cs_rk]; exact (World.ownsRow.stored h _ _).1
theorem OwnPf.st_rf (h : OwnPf w (.slice (some ⟨g, 0, none⟩) L cap) xs) (hL : xs.length = L) (i : Nat) (n : Int) : OwnPf (w.setCell ⟨g, i * 14 + 12, none⟩ (.int .i64 n)) (.slice (some ⟨g, 0, none⟩) L cap) (xs.set i { xs.getD i pf0 with rf := n }) := by
  subst hL; unfold OwnPf; rw [List.length_set, cs_rf]; exact (World.ownsRow.stored h _ _).1
theorem OwnPf.st_sec (h : OwnPf w (.slice (some ⟨g, 0, none⟩) L cap) xs) (hL : xs.length = L) (i : Nat) (n : Int) : OwnPf (w.setCell ⟨g, i * 14 + 13, none⟩ (.int .i64 n)) (.slice (some ⟨g, 0, none⟩) L cap) (xs.set i { xs.getD i pf0 with sec := n }) := by
  subst hL; unfold OwnPf; rw [List.length_set, cs_sec]; exact (World.ownsRow.stored h _ _).1
theorem OwnPf.st_cd (h : OwnPf w (.slice (some ⟨g, 0, none⟩) L cap) xs) (hL : xs.length = L) (i : Nat) (s : ByteArray) : OwnPf (w.setCell ⟨g, i * 14 + 3, none⟩ (.string s)) (.slice (some ⟨g, 0, none⟩) L cap) (xs.set i { xs.getD i pf0 with cd := s }) := by
  subst hL; unfold OwnPf; rw [List.length_set, cs_cd]; exact (World.ownsRow.stored h _ _).1
theorem OwnPf.st_am (h : OwnPf w (.slice (some ⟨g, 0, none⟩) L cap) xs) (hL : xs.length = L) (i : Nat) (x : Q3) : OwnPf (((w.setCell ⟨g, i * 14 + 4, none⟩ (.bool x.neg)).setCell ⟨g, i * 14 + 5, none⟩ (.string x.num)).setCell ⟨g, i * 14 + 6, none⟩ (.string x.den)) (.slice (some ⟨g, 0, none⟩) L cap) (xs.set i { xs.getD i pf0 with am := x }) := by
  subst hL; unfold OwnPf; rw [List.length_set, cs_am]; exact (World.ownsRow.stored (World.ownsRow.stored (World.ownsRow.stored h _ _).1 _ _).1 _ _).1
theorem OwnPf.st_rt (h : OwnPf w (.slice (some ⟨g, 0, none⟩) L cap) xs) (hL : xs.length = L) (i : Nat) (x : Q3) : OwnPf (((w.setCell ⟨g, i * 14 + 9, none⟩ (.bool x.neg)).setCell ⟨g, i * 14 + 10, none⟩ (.string x.num)).setCell ⟨g, i * 14 + 11, none⟩ (.string x.den)) (.slice (some ⟨g, 0, none⟩) L cap) (xs.set i { xs.getD i pf0 with rt := x }) := by
  subst hL; unfold OwnPf; rw [List.length_set, cs_rt]; exact (World.ownsRow.stored (World.ownsRow.stored (World.ownsRow.stored h _ _).1 _ _).1 _ _).1
end
end Go.Proofs.YtogciehmdlfkfaaGreatDoor

/- Part DX6. -/

namespace Go.Proofs.YtogciehmdlfkfaaGreatDoor
open Go.RowKit Nd

theorem kindFrom_form (ws : List ByteArray) : ∀ (l : List (List ByteArray)) (a k : Int), kindFrom ws l a = k → 0 ≤ a → 0 ≤ k → ∃ j : Nat, j < l.length ∧ k = a + j ∧ hasF ws (l.getD j []) = true
  | [], a, k, h, _, h0 => by rw [kindFrom] at h; omega
  | f :: l, a, k, h, ha, h0 => by
    rw [kindFrom] at h
    split at h
    · rename_i hf
      exact ⟨0, by simp, by omega, hf⟩
    · obtain ⟨j, hj, e, hh⟩ := kindFrom_form ws l (a + 1) k h (by omega) h0
      exact ⟨j + 1, by simp; omega, by omega, by simpa using hh⟩
theorem kindW_form {ws : List ByteArray} {k : Int} (h : kindW ws = k) (h0 : 0 ≤ k) : ∃ j : Nat, j < 8 ∧ k = j ∧ hasF ws (formsW.getD j []) = true := by
  obtain ⟨j, hj, e, hh⟩ := kindFrom_form ws formsW 0 k h (by omega) h0
  exact ⟨j, hj, by omega, hh⟩
theorem kindW_range (ws : List ByteArray) : -1 ≤ kindW ws ∧ kindW ws ≤ 7 := by
  by_cases h : 0 ≤ kindW ws
  · obtain ⟨j, hj, e, _⟩ := kindW_form rfl h
    omega
  · have key : ∀ (l : List (List ByteArray)) (a : Int), 0 ≤ a → -1 ≤ kindFrom ws l a := by
      intro l
      induction l with
      | nil => intro a _; simp [kindFrom]
      | cons f l ih =>
        intro a ha
        rw [kindFrom]
        split
        · omega
        · exact ih (a + 1) (by omega)
    have := key formsW 0 (by omega)
    unfold kindW at *
    omega
theorem hasF_fit {ws f : List ByteArray} (h : hasF ws f = true) : ws.length = f.length ∧ ∀ i, i < f.length → fitW (f.getD i wd0) (ws.getD i wd0) = true := by
  unfold hasF at h
  simpa only [Bool.and_eq_true, decide_eq_true_eq] using h
theorem fitW_N (w : ByteArray) : fitW sN w = numB w := by
  unfold fitW; rw [if_neg (by decide), if_pos rfl]
/-- What is known of the words of a line of a kind. -/
theorem kind_len {ws : List ByteArray} {k : Int} (h : kindW ws = k) (h0 : 0 ≤ k) : ws.length = if k = 3 then 3 else if k = 6 then 4 else 2 := by
  obtain ⟨j, hj, rfl, hh⟩ := kindW_form h h0
  have hl := (hasF_fit hh).1
  rcases (by omega : j = 0 ∨ j = 1 ∨ j = 2 ∨ j = 3 ∨ j = 4 ∨ j = 5 ∨ j = 6 ∨ j = 7) with rfl | rfl | rfl | rfl | rfl | rfl | rfl | rfl <;> exact hl
theorem kind_num {ws : List ByteArray} {k : Int} (h : kindW ws = k) (h0 : 1 ≤ k) (h3 : k ≠ 3) : numB (ws.getD (if k = 6 then 3 else 1) wd0) = true := by
  obtain ⟨j, hj, rfl, hh⟩ := kindW_form h (by omega)
  have hl := (hasF_fit hh).2
  rcases (by omega : j = 1 ∨ j = 2 ∨ j = 4 ∨ j = 5 ∨ j = 6 ∨ j = 7) with rfl | rfl | rfl | rfl | rfl | rfl
  all_goals first | exact (fitW_N _).symm.trans (hl 1 (by decide)) | exact (fitW_N _).symm.trans (hl 3 (by decide))

/-- A line is set into the document at place i: the error E, and without one the document P. -/
structure SetPo (docs : List Pf) (i g L cap : Nat) (E : Int) (P : Pf) (w : World) (e : Ending) (w' : World) : Prop where
  out : ∃ p', e = .returned (.int .i64 E) ∧ (E = 0 → p' = P) ∧ OwnPf w' (.slice (some ⟨g, 0, none⟩) L cap) (docs.set i p') ∧ Chg [g] w w'
set_option maxRecDepth 20000 in
set_option maxHeartbeats 2000000 in
theorem setAmount_any (docs : List Pf) (i g o L cap : Nat) (code amt : ByteArray) (w : World) (how : OwnPf w (.slice (some ⟨g, 0, none⟩) L cap) docs) (hL : docs.length = L) (hi : i < docs.length) (ho : i * 14 = o) (hz : amt.size ≤ 1099511627776) :
    Calls Tryz.prog 93 #[.pointer (some ⟨g, o, none⟩), .string code, .string amt] w (SetPo docs i g L cap (if codeB code then qtyE amt else 8) { docs.getD i pf0 with cd := code, am := qc (qtyQ amt) } w) := by
  have HL := Lib.hid hL
  have HI := Lib.hid hi
  have HO := Lib.hid ho
  have HW := Lib.hid how
  clear hL hi ho
  obtain ⟨EE, HEE⟩ := name_it (if codeB code then qtyE amt else 8)
  obtain ⟨PP, HPP⟩ := name_it { docs.getD i pf0 with cd := code, am := qc (qtyQ amt) }
  rw [HEE.out, HPP.out]
  obtain ⟨b, HB⟩ := name_it (codeB code)
  obtain ⟨E, HE⟩ := name_it (qtyE amt)
  obtain ⟨Q, HQ⟩ := name_it (qtyQ amt)
  rw [HB.out, HE.out] at HEE
  rw [HQ.out] at HPP
  cases b with
  | false =>
    have hEE : Hid (EE = 8) := by show _ = _; rw [← HEE.out]; simp
    clear how HEE
    go_enter Tryz.func93, Tryz.ntmps93
    go_wp2_with (go_at_call 31; refine (isCode_any code _).mono ?_; rintro e w3 ⟨rfl, c3⟩; rw [HB.out])
    go_ret
    refine ⟨⟨docs.getD i pf0, ret_eq (by rw [hEE.out]; rfl), fun h => (by rw [hEE.out] at h; cases h), ?_, c3.mono (by simp)⟩⟩
    have : docs.set i (docs.getD i pf0) = docs := by
      rw [List.getD_eq_getElem?_getD, List.getElem?_eq_getElem HI.out, Option.getD_some, List.set_getElem_self]
    rw [this]; exact HW.out.keep0 c3
  | true =>
    have hEE : Hid (EE = E) := by show _ = _; rw [← HEE.out]; simp
    clear how HEE
    go_enter Tryz.func93, Tryz.ntmps93
    go_wp2_with fail
    refine (isCode_any code _).mono ?_
    rintro e w3 ⟨rfl, c3⟩
    rw [HB.out]
    have HW3 := Lib.hid (HW.out.keep0 c3)
    clear HW
    have hcel := (Hid.out HW3).cel HI.out
    rw [HO.out] at hcel
    have gl := hcel.l
    have y3 := hcel.c3
    have z3 : w3.frozen? ⟨g, o + 3, none⟩ = false := (Hid.out HW3).fr HL.out _
    clear hcel
    go_wp2_with fail
    have hs := HW3.out.st_cd HL.out i code
    rw [HO.out] at hs
    have HS := Lib.hid hs
    have c4 : Chg [g] w (w3.setCell ⟨g, o + 3, none⟩ (.string code)) := (c3.mono (by simp)).setCell (.inl (by simp)) _
    have HI2 : Hid (i < (docs.set i { docs.getD i pf0 with cd := code }).length) := by show _ < _; rw [List.length_set]; exact HI.out
    have HL2 : Hid ((docs.set i { docs.getD i pf0 with cd := code }).length = L) := by show _ = _; rw [List.length_set]; exact HL.out
    clear hs c3 y3 z3 gl HW3
    obtain ⟨w4, HW4⟩ := name_it (w3.setCell ⟨g, o + 3, none⟩ (.string code))
    rw [HW4.out] at HS c4 ⊢
    refine (quantity_any amt _ hz).mono ?_
    rintro e w5 ⟨x, rfl, hx, c5⟩
    rw [HE.out]
    rw [HQ.out] at hx
    have HX := Lib.hid (Enc_qc hx)
    have HS5 := Lib.hid (HS.out.keep0 c5)
    have c6 := c4.then c5
    clear hx c4 c5 HS
    have hcel := (Hid.out HS5).cel HI2.out
    rw [HO.out] at hcel
    have gl := hcel.l
    have y4 := hcel.c4
    have z4 : w5.frozen? ⟨g, o + 4, none⟩ = false := (Hid.out HS5).fr HL2.out _
    have y5 := hcel.c5
    have z5 : w5.frozen? ⟨g, o + 5, none⟩ = false := (Hid.out HS5).fr HL2.out _
    have y6 := hcel.c6
    have z6 : w5.frozen? ⟨g, o + 6, none⟩ = false := (Hid.out HS5).fr HL2.out _
    clear hcel
    go_wp2_with fail
    go_ret
    have hs := HS5.out.st_am HL2.out i x
    rw [HO.out] at hs
    refine ⟨⟨{ docs.getD i pf0 with cd := code, am := x }, ret_eq (by rw [hEE.out]; rfl), fun _ => by rw [HX.out]; exact HPP.out, ?_, ((c6.setCell (.inl (by simp)) _).setCell (.inl (by simp)) _).setCell (.inl (by simp)) _⟩⟩
    have e1 : (docs.set i { docs.getD i pf0 with cd := code }).getD i pf0 = { docs.getD i pf0 with cd := code } := by
      rw [List.getD_eq_getElem?_getD, List.getElem?_set_self HI.out, Option.getD_some]
    rw [e1, List.set_set] at hs
    exact hs
theorem qty_bd (s : ByteArray) : Bd 4001 (qtyQ s) := by
  unfold qtyQ
  split
  · exact Bd_nil _ (by omega)
  · exact parse_bd _ _ (Nat.le_refl _)
set_option maxRecDepth 20000 in
set_option maxHeartbeats 4000000 in
theorem setInterest_any (docs : List Pf) (i g o L cap : Nat) (rate fr : ByteArray) (w : World) (how : OwnPf w (.slice (some ⟨g, 0, none⟩) L cap) docs) (hL : docs.length = L) (hi : i < docs.length) (ho : i * 14 = o) (hz : rate.size ≤ 1099511627776) (hn : numB fr = true) :
    Calls Tryz.prog 94 #[.pointer (some ⟨g, o, none⟩), .string rate, .string fr] w (SetPo docs i g L cap (if qtyE rate ≠ 0 then qtyE rate else if qtyQ rate = 0 then 1 else numE fr 1048576) { docs.getD i pf0 with rt := qc (qtyQ rate), rf := numV fr } w) := by
  have HL := Lib.hid hL
  have HI := Lib.hid hi
  have HO := Lib.hid ho
  have HW := Lib.hid how
  have HBD := Lib.hid (qty_bd rate)
  clear hL hi ho
  obtain ⟨EE, HEE⟩ := name_it (if qtyE rate ≠ 0 then qtyE rate else if qtyQ rate = 0 then 1 else numE fr 1048576)
  obtain ⟨PP, HPP⟩ := name_it { docs.getD i pf0 with rt := qc (qtyQ rate), rf := (numV fr : Int) }
  rw [HEE.out, HPP.out]
  obtain ⟨E, HE⟩ := name_it (qtyE rate)
  obtain ⟨Q, HQ⟩ := name_it (qtyQ rate)
  obtain ⟨V, HV⟩ := name_it (numI fr 1048576)
  obtain ⟨U, HU⟩ := name_it (numE fr 1048576)
  have HVU : Hid (U = 0 → V = numV fr) := by
    show _ → _
    rw [← HV.out, ← HU.out]; unfold numE numI
    intro h
    split at h
    · rename_i h1; rw [if_pos h1]
    · cases h
  obtain ⟨vf, HVF⟩ := name_it (numV fr : Int)
  rw [HE.out, HQ.out, HU.out] at HEE
  rw [HQ.out, HVF.out] at HPP
  rw [HVF.out] at HVU
  rw [HQ.out] at HBD
  have hA : Hid (E ≠ 0 → EE = E) := by show _ → _; intro h; rw [← HEE.out, if_pos h]
  have hB : Hid (E = 0 → Q = 0 → EE = 1) := by show _ → _; intro h h2; rw [← HEE.out, if_neg (by simp [h]), if_pos h2]
  have hC : Hid (E = 0 → Q ≠ 0 → EE = U) := by show _ → _; intro h h2; rw [← HEE.out, if_neg (by simp [h]), if_neg h2]
  clear HEE
  clear how
  go_enter Tryz.func94, Tryz.ntmps94
  go_wp2_with fail
  refine (quantity_any rate _ hz).mono ?_
  rintro e w3 ⟨x, rfl, hx, c3⟩
  rw [HE.out]
  rw [HQ.out] at hx
  have HX := Lib.hid (Enc_qc hx)
  have HN := Lib.hid (hx.val HBD.out)
  have HW3 := Lib.hid (HW.out.keep0 c3)
  clear HW hx
  have hcel := (Hid.out HW3).cel HI.out
  rw [HO.out] at hcel
  have gl := hcel.l
  have y9 := hcel.c9
  have z9 : w3.frozen? ⟨g, o + 9, none⟩ = false := (Hid.out HW3).fr HL.out _
  have y10 := hcel.c10
  have z10 : w3.frozen? ⟨g, o + 10, none⟩ = false := (Hid.out HW3).fr HL.out _
  have y11 := hcel.c11
  have z11 : w3.frozen? ⟨g, o + 11, none⟩ = false := (Hid.out HW3).fr HL.out _
  clear hcel
  have hs := HW3.out.st_rt HL.out i x
  rw [HO.out] at hs
  have HS := Lib.hid hs
  have c4 : Chg [g] w (((w3.setCell ⟨g, o + 9, none⟩ (.bool x.neg)).setCell ⟨g, o + 10, none⟩ (.string x.num)).setCell ⟨g, o + 11, none⟩ (.string x.den)) := ((((c3.mono (by simp)).setCell (.inl (by simp)) _).setCell (.inl (by simp)) _).setCell (.inl (by simp)) _)
  have HI2 : Hid (i < (docs.set i { docs.getD i pf0 with rt := x }).length) := by show _ < _; rw [List.length_set]; exact HI.out
  have HL2 : Hid ((docs.set i { docs.getD i pf0 with rt := x }).length = L) := by show _ = _; rw [List.length_set]; exact HL.out
  clear hs c3
  have HXX : Hid (x = qc Q) := HX
  by_cases hE : E = 0
  · subst hE
    by_cases hQ : Q = 0
    · have hsg : sg Q = 0 := (sg_zero Q).2 hQ
      have HSG := Lib.hid hsg
      have hR : Hid (EE = 1) := hB.out rfl hQ
      clear hQ hsg
      go_wp2_with (go_at_call 32; refine (SignN x Q 4001 _ HN.out.num (by omega)).mono ?_; rintro e w5 ⟨rfl, c5⟩; rw [HSG.out])
      go_ret
      exact ⟨⟨{ docs.getD i pf0 with rt := x }, ret_eq (by rw [hR.out]; rfl), fun h => (by rw [hR.out] at h; cases h), HS.out.keep0 c5, c4.then c5⟩⟩
    · have d0 : (sg Q == 0) = false := by
        rw [beq_eq_false_iff_ne]; exact fun h => hQ ((sg_zero Q).1 h)
      have HD0 := Lib.hid d0
      have hR : Hid (EE = U) := hC.out rfl hQ
      clear d0 hQ
      go_wp2_with (first
        | (go_at_call 32; refine (SignN x Q 4001 _ HN.out.num (by omega)).mono ?_; rintro e w5 ⟨rfl, c5⟩; have d0 := HD0.out)
        | (go_at_call 92; refine (number_any fr 1048576 _ hn (by omega)).mono ?_; rintro e w6 ⟨rfl, c6⟩; rw [HV.out, HU.out]; have HS6 := Lib.hid ((HS.out.keep0 c5).keep0 c6); have c7 := (c4.then c5).then c6; have hcel := (Hid.out HS6).cel HI2.out; rw [HO.out] at hcel; have gl := hcel.l; have y12 := hcel.c12; have z12 : w6.frozen? ⟨g, o + 12, none⟩ = false := (Hid.out HS6).fr HL2.out _; clear hcel)
        | fail)
      go_ret
      have hs := HS6.out.st_rf HL2.out i V
      rw [HO.out] at hs
      refine ⟨⟨{ docs.getD i pf0 with rt := x, rf := V }, ret_eq (by rw [hR.out]; rfl), fun h => by rw [HXX.out, HVU.out (hR.out.symm.trans h)]; exact HPP.out, ?_, c7.setCell (.inl (by simp)) _⟩⟩
      have e1 : (docs.set i { docs.getD i pf0 with rt := x }).getD i pf0 = { docs.getD i pf0 with rt := x } := by
        rw [List.getD_eq_getElem?_getD, List.getElem?_set_self HI.out, Option.getD_some]
      rw [e1, List.set_set] at hs
      exact hs
  · have d0 : (E != 0) = true := by simpa using hE
    have hR : Hid (EE = E) := hA.out hE
    have HE0 := Lib.hid hE
    clear hE
    go_wp2_with fail
    go_ret
    exact ⟨⟨{ docs.getD i pf0 with rt := x }, ret_eq (by rw [hR.out]; rfl), fun h => by rw [hR.out] at h; exact absurd h HE0.out, HS.out, c4⟩⟩
theorem num_pair (v : ByteArray) (top : Int) (h : numE v top = 0) : numI v top = numV v := by
  unfold numE at h; unfold numI
  split at h
  · rename_i h1; rw [if_pos h1]
  · cases h
set_option maxRecDepth 20000 in
set_option maxHeartbeats 2000000 in
theorem set1_any (docs : List Pf) (i g o L cap : Nat) (ws : List ByteArray) (A : Option Addr) (n c : Nat) (w : World) (how : OwnPf w (.slice (some ⟨g, 0, none⟩) L cap) docs) (hL : docs.length = L) (hi : i < docs.length) (ho : i * 14 = o) (hw : SWd w A ws) (hoff : Off [g] A) (hn : ws.length = n) (_hz : ∀ j, (ws.getD j wd0).size ≤ 4294967296) (hk : kindW ws = 1) :
    Calls Tryz.prog 64 #[.pointer (some ⟨g, o, none⟩), .int .i64 1, .slice A n c] w (SetPo docs i g L cap (setE 1 ws) (setP (docs.getD i pf0) 1 ws) w) := by
  have hlen := kind_len hk (by omega)
  rw [if_neg (by omega), if_neg (by omega), hn] at hlen
  have hnum := kind_num hk (by omega) (by omega)
  rw [if_neg (by omega)] at hnum
  subst hlen
  have HL := Lib.hid hL
  have HI := Lib.hid hi
  have HO := Lib.hid ho
  have HW := Lib.hid how
  obtain ⟨g1, o1, rfl, l1, k1⟩ := hw (by omega)
  have hg1 : g1 ≠ g := by have := hoff _ rfl; simpa using this
  obtain ⟨v, HV⟩ := name_it (ws.getD 1 wd0)
  have x1 := (k1 1 (by omega)).c0
  rw [HV.out] at x1
  rw [HV.out] at hnum
  have hE : Hid (setE 1 ws = numE v 7) := by show _ = _; rw [← HV.out]; rfl
  have hP : Hid (setP (docs.getD i pf0) 1 ws = { docs.getD i pf0 with es := numV v }) := by show _ = _; rw [← HV.out]; rfl
  obtain ⟨EE, HEE⟩ := name_it (setE 1 ws)
  obtain ⟨PP, HPP⟩ := name_it (setP (docs.getD i pf0) 1 ws)
  rw [HEE.out, HPP.out]
  rw [HEE.out] at hE
  rw [HPP.out] at hP
  clear hL hi ho how hw hoff hn k1 _hz hk HEE HPP
  obtain ⟨V, HVV⟩ := name_it (numI v 7)
  obtain ⟨U, HU⟩ := name_it (numE v 7)
  go_enter Tryz.func64, Tryz.ntmps64
  go_wp2_with fail
  refine (number_any v 7 _ hnum (by omega)).mono ?_
  rintro e w3 ⟨rfl, c3⟩
  rw [HVV.out, HU.out]
  have HW3 := Lib.hid (HW.out.keep0 c3)
  clear HW x1
  have hcel := (Hid.out HW3).cel HI.out
  rw [HO.out] at hcel
  have gl := hcel.l
  have y1 := hcel.c1
  have z1 : w3.frozen? ⟨g, o + 1, none⟩ = false := (Hid.out HW3).fr HL.out _
  clear hcel
  go_wp2_with fail
  go_ret
  have hs := HW3.out.st_es HL.out i V
  rw [HO.out] at hs
  refine ⟨⟨{ docs.getD i pf0 with es := V }, ret_eq (by rw [hE.out, HU.out]; rfl), fun h => ?_, hs, (c3.mono (by simp)).setCell (.inl (by simp)) _⟩⟩
  rw [← HVV.out, num_pair v _ (hE.out.symm.trans h)]; exact hP.out.symm
set_option maxRecDepth 20000 in
set_option maxHeartbeats 2000000 in
theorem set2_any (docs : List Pf) (i g o L cap : Nat) (ws : List ByteArray) (A : Option Addr) (n c : Nat) (w : World) (how : OwnPf w (.slice (some ⟨g, 0, none⟩) L cap) docs) (hL : docs.length = L) (hi : i < docs.length) (ho : i * 14 = o) (hw : SWd w A ws) (hoff : Off [g] A) (hn : ws.length = n) (_hz : ∀ j, (ws.getD j wd0).size ≤ 4294967296) (hk : kindW ws = 2) :
    Calls Tryz.prog 64 #[.pointer (some ⟨g, o, none⟩), .int .i64 2, .slice A n c] w (SetPo docs i g L cap (setE 2 ws) (setP (docs.getD i pf0) 2 ws) w) := by
  have hlen := kind_len hk (by omega)
  rw [if_neg (by omega), if_neg (by omega), hn] at hlen
  have hnum := kind_num hk (by omega) (by omega)
  rw [if_neg (by omega)] at hnum
  subst hlen
  have HL := Lib.hid hL
  have HI := Lib.hid hi
  have HO := Lib.hid ho
  have HW := Lib.hid how
  obtain ⟨g1, o1, rfl, l1, k1⟩ := hw (by omega)
  have hg1 : g1 ≠ g := by have := hoff _ rfl; simpa using this
  obtain ⟨v, HV⟩ := name_it (ws.getD 1 wd0)
  have x1 := (k1 1 (by omega)).c0
  rw [HV.out] at x1
  rw [HV.out] at hnum
  have hE : Hid (setE 2 ws = numE v 31) := by show _ = _; rw [← HV.out]; rfl
  have hP : Hid (setP (docs.getD i pf0) 2 ws = { docs.getD i pf0 with cr := numV v }) := by show _ = _; rw [← HV.out]; rfl
  obtain ⟨EE, HEE⟩ := name_it (setE 2 ws)
  obtain ⟨PP, HPP⟩ := name_it (setP (docs.getD i pf0) 2 ws)
  rw [HEE.out, HPP.out]
  rw [HEE.out] at hE
  rw [HPP.out] at hP
  clear hL hi ho how hw hoff hn k1 _hz hk HEE HPP
  obtain ⟨V, HVV⟩ := name_it (numI v 31)
  obtain ⟨U, HU⟩ := name_it (numE v 31)
  go_enter Tryz.func64, Tryz.ntmps64
  go_wp2_with fail
  refine (number_any v 31 _ hnum (by omega)).mono ?_
  rintro e w3 ⟨rfl, c3⟩
  rw [HVV.out, HU.out]
  have HW3 := Lib.hid (HW.out.keep0 c3)
  clear HW x1
  have hcel := (Hid.out HW3).cel HI.out
  rw [HO.out] at hcel
  have gl := hcel.l
  have y2 := hcel.c2
  have z2 : w3.frozen? ⟨g, o + 2, none⟩ = false := (Hid.out HW3).fr HL.out _
  clear hcel
  go_wp2_with fail
  go_ret
  have hs := HW3.out.st_cr HL.out i V
  rw [HO.out] at hs
  refine ⟨⟨{ docs.getD i pf0 with cr := V }, ret_eq (by rw [hE.out, HU.out]; rfl), fun h => ?_, hs, (c3.mono (by simp)).setCell (.inl (by simp)) _⟩⟩
  rw [← HVV.out, num_pair v _ (hE.out.symm.trans h)]; exact hP.out.symm
set_option maxRecDepth 20000 in
set_option maxHeartbeats 2000000 in
theorem set4_any (docs : List Pf) (i g o L cap : Nat) (ws : List ByteArray) (A : Option Addr) (n c : Nat) (w : World) (how : OwnPf w (.slice (some ⟨g, 0, none⟩) L cap) docs) (hL : docs.length = L) (hi : i < docs.length) (ho : i * 14 = o) (hw : SWd w A ws) (hoff : Off [g] A) (hn : ws.length = n) (_hz : ∀ j, (ws.getD j wd0).size ≤ 4294967296) (hk : kindW ws = 4) :
    Calls Tryz.prog 64 #[.pointer (some ⟨g, o, none⟩), .int .i64 4, .slice A n c] w (SetPo docs i g L cap (setE 4 ws) (setP (docs.getD i pf0) 4 ws) w) := by
  have hlen := kind_len hk (by omega)
  rw [if_neg (by omega), if_neg (by omega), hn] at hlen
  have hnum := kind_num hk (by omega) (by omega)
  rw [if_neg (by omega)] at hnum
  subst hlen
  have HL := Lib.hid hL
  have HI := Lib.hid hi
  have HO := Lib.hid ho
  have HW := Lib.hid how
  obtain ⟨g1, o1, rfl, l1, k1⟩ := hw (by omega)
  have hg1 : g1 ≠ g := by have := hoff _ rfl; simpa using this
  obtain ⟨v, HV⟩ := name_it (ws.getD 1 wd0)
  have x1 := (k1 1 (by omega)).c0
  rw [HV.out] at x1
  rw [HV.out] at hnum
  have hE : Hid (setE 4 ws = numE v 1048576) := by show _ = _; rw [← HV.out]; rfl
  have hP : Hid (setP (docs.getD i pf0) 4 ws = { docs.getD i pf0 with inc := numV v }) := by show _ = _; rw [← HV.out]; rfl
  obtain ⟨EE, HEE⟩ := name_it (setE 4 ws)
  obtain ⟨PP, HPP⟩ := name_it (setP (docs.getD i pf0) 4 ws)
  rw [HEE.out, HPP.out]
  rw [HEE.out] at hE
  rw [HPP.out] at hP
  clear hL hi ho how hw hoff hn k1 _hz hk HEE HPP
  obtain ⟨V, HVV⟩ := name_it (numI v 1048576)
  obtain ⟨U, HU⟩ := name_it (numE v 1048576)
  go_enter Tryz.func64, Tryz.ntmps64
  go_wp2_with fail
  refine (number_any v 1048576 _ hnum (by omega)).mono ?_
  rintro e w3 ⟨rfl, c3⟩
  rw [HVV.out, HU.out]
  have HW3 := Lib.hid (HW.out.keep0 c3)
  clear HW x1
  have hcel := (Hid.out HW3).cel HI.out
  rw [HO.out] at hcel
  have gl := hcel.l
  have y7 := hcel.c7
  have z7 : w3.frozen? ⟨g, o + 7, none⟩ = false := (Hid.out HW3).fr HL.out _
  clear hcel
  go_wp2_with fail
  go_ret
  have hs := HW3.out.st_inc HL.out i V
  rw [HO.out] at hs
  refine ⟨⟨{ docs.getD i pf0 with inc := V }, ret_eq (by rw [hE.out, HU.out]; rfl), fun h => ?_, hs, (c3.mono (by simp)).setCell (.inl (by simp)) _⟩⟩
  rw [← HVV.out, num_pair v _ (hE.out.symm.trans h)]; exact hP.out.symm
set_option maxRecDepth 20000 in
set_option maxHeartbeats 2000000 in
theorem set5_any (docs : List Pf) (i g o L cap : Nat) (ws : List ByteArray) (A : Option Addr) (n c : Nat) (w : World) (how : OwnPf w (.slice (some ⟨g, 0, none⟩) L cap) docs) (hL : docs.length = L) (hi : i < docs.length) (ho : i * 14 = o) (hw : SWd w A ws) (hoff : Off [g] A) (hn : ws.length = n) (_hz : ∀ j, (ws.getD j wd0).size ≤ 4294967296) (hk : kindW ws = 5) :
    Calls Tryz.prog 64 #[.pointer (some ⟨g, o, none⟩), .int .i64 5, .slice A n c] w (SetPo docs i g L cap (setE 5 ws) (setP (docs.getD i pf0) 5 ws) w) := by
  have hlen := kind_len hk (by omega)
  rw [if_neg (by omega), if_neg (by omega), hn] at hlen
  have hnum := kind_num hk (by omega) (by omega)
  rw [if_neg (by omega)] at hnum
  subst hlen
  have HL := Lib.hid hL
  have HI := Lib.hid hi
  have HO := Lib.hid ho
  have HW := Lib.hid how
  obtain ⟨g1, o1, rfl, l1, k1⟩ := hw (by omega)
  have hg1 : g1 ≠ g := by have := hoff _ rfl; simpa using this
  obtain ⟨v, HV⟩ := name_it (ws.getD 1 wd0)
  have x1 := (k1 1 (by omega)).c0
  rw [HV.out] at x1
  rw [HV.out] at hnum
  have hE : Hid (setE 5 ws = numE v 7) := by show _ = _; rw [← HV.out]; rfl
  have hP : Hid (setP (docs.getD i pf0) 5 ws = { docs.getD i pf0 with rk := numV v }) := by show _ = _; rw [← HV.out]; rfl
  obtain ⟨EE, HEE⟩ := name_it (setE 5 ws)
  obtain ⟨PP, HPP⟩ := name_it (setP (docs.getD i pf0) 5 ws)
  rw [HEE.out, HPP.out]
  rw [HEE.out] at hE
  rw [HPP.out] at hP
  clear hL hi ho how hw hoff hn k1 _hz hk HEE HPP
  obtain ⟨V, HVV⟩ := name_it (numI v 7)
  obtain ⟨U, HU⟩ := name_it (numE v 7)
  go_enter Tryz.func64, Tryz.ntmps64
  go_wp2_with fail
  refine (number_any v 7 _ hnum (by omega)).mono ?_
  rintro e w3 ⟨rfl, c3⟩
  rw [HVV.out, HU.out]
  have HW3 := Lib.hid (HW.out.keep0 c3)
  clear HW x1
  have hcel := (Hid.out HW3).cel HI.out
  rw [HO.out] at hcel
  have gl := hcel.l
  have y8 := hcel.c8
  have z8 : w3.frozen? ⟨g, o + 8, none⟩ = false := (Hid.out HW3).fr HL.out _
  clear hcel
  go_wp2_with fail
  go_ret
  have hs := HW3.out.st_rk HL.out i V
  rw [HO.out] at hs
  refine ⟨⟨{ docs.getD i pf0 with rk := V }, ret_eq (by rw [hE.out, HU.out]; rfl), fun h => ?_, hs, (c3.mono (by simp)).setCell (.inl (by simp)) _⟩⟩
  rw [← HVV.out, num_pair v _ (hE.out.symm.trans h)]; exact hP.out.symm
set_option maxRecDepth 20000 in
set_option maxHeartbeats 2000000 in
theorem set7_any (docs : List Pf) (i g o L cap : Nat) (ws : List ByteArray) (A : Option Addr) (n c : Nat) (w : World) (how : OwnPf w (.slice (some ⟨g, 0, none⟩) L cap) docs) (hL : docs.length = L) (hi : i < docs.length) (ho : i * 14 = o) (hw : SWd w A ws) (hoff : Off [g] A) (hn : ws.length = n) (_hz : ∀ j, (ws.getD j wd0).size ≤ 4294967296) (hk : kindW ws = 7) :
    Calls Tryz.prog 64 #[.pointer (some ⟨g, o, none⟩), .int .i64 7, .slice A n c] w (SetPo docs i g L cap (setE 7 ws) (setP (docs.getD i pf0) 7 ws) w) := by
  have hlen := kind_len hk (by omega)
  rw [if_neg (by omega), if_neg (by omega), hn] at hlen
  have hnum := kind_num hk (by omega) (by omega)
  rw [if_neg (by omega)] at hnum
  subst hlen
  have HL := Lib.hid hL
  have HI := Lib.hid hi
  have HO := Lib.hid ho
  have HW := Lib.hid how
  obtain ⟨g1, o1, rfl, l1, k1⟩ := hw (by omega)
  have hg1 : g1 ≠ g := by have := hoff _ rfl; simpa using this
  obtain ⟨v, HV⟩ := name_it (ws.getD 1 wd0)
  have x1 := (k1 1 (by omega)).c0
  rw [HV.out] at x1
  rw [HV.out] at hnum
  have hE : Hid (setE 7 ws = numE v 7) := by show _ = _; rw [← HV.out]; rfl
  have hP : Hid (setP (docs.getD i pf0) 7 ws = { docs.getD i pf0 with sec := numV v }) := by show _ = _; rw [← HV.out]; rfl
  obtain ⟨EE, HEE⟩ := name_it (setE 7 ws)
  obtain ⟨PP, HPP⟩ := name_it (setP (docs.getD i pf0) 7 ws)
  rw [HEE.out, HPP.out]
  rw [HEE.out] at hE
  rw [HPP.out] at hP
  clear hL hi ho how hw hoff hn k1 _hz hk HEE HPP
  obtain ⟨V, HVV⟩ := name_it (numI v 7)
  obtain ⟨U, HU⟩ := name_it (numE v 7)
  go_enter Tryz.func64, Tryz.ntmps64
  go_wp2_with fail
  refine (number_any v 7 _ hnum (by omega)).mono ?_
  rintro e w3 ⟨rfl, c3⟩
  rw [HVV.out, HU.out]
  have HW3 := Lib.hid (HW.out.keep0 c3)
  clear HW x1
  have hcel := (Hid.out HW3).cel HI.out
  rw [HO.out] at hcel
  have gl := hcel.l
  have y13 := hcel.c13
  have z13 : w3.frozen? ⟨g, o + 13, none⟩ = false := (Hid.out HW3).fr HL.out _
  clear hcel
  go_wp2_with fail
  go_ret
  have hs := HW3.out.st_sec HL.out i V
  rw [HO.out] at hs
  refine ⟨⟨{ docs.getD i pf0 with sec := V }, ret_eq (by rw [hE.out, HU.out]; rfl), fun h => ?_, hs, (c3.mono (by simp)).setCell (.inl (by simp)) _⟩⟩
  rw [← HVV.out, num_pair v _ (hE.out.symm.trans h)]; exact hP.out.symm
set_option maxRecDepth 20000 in
set_option maxHeartbeats 4000000 in
theorem set3_any (docs : List Pf) (i g o L cap : Nat) (ws : List ByteArray) (A : Option Addr) (n c : Nat) (w : World) (how : OwnPf w (.slice (some ⟨g, 0, none⟩) L cap) docs) (hL : docs.length = L) (hi : i < docs.length) (ho : i * 14 = o) (hw : SWd w A ws) (hoff : Off [g] A) (hn : ws.length = n) (hz : ∀ j, (ws.getD j wd0).size ≤ 4294967296) (hk : kindW ws = 3) :
    Calls Tryz.prog 64 #[.pointer (some ⟨g, o, none⟩), .int .i64 3, .slice A n c] w (SetPo docs i g L cap (setE 3 ws) (setP (docs.getD i pf0) 3 ws) w) := by
  have hlen := kind_len hk (by omega)
  rw [if_pos rfl, hn] at hlen
  subst hlen
  have HW := Lib.hid (how.keep0 (Chg.refl [] w).drew)
  have HL := Lib.hid hL
  have HI := Lib.hid hi
  have HO := Lib.hid ho
  obtain ⟨g1, o1, rfl, l1, k1⟩ := hw (by omega)
  have hg1 : g1 ≠ g := by have := hoff _ rfl; simpa using this
  have HG1 := Lib.hid hg1
  obtain ⟨v, HV⟩ := name_it (ws.getD 1 wd0)
  obtain ⟨u, HU⟩ := name_it (ws.getD 2 wd0)
  have c1 := (k1 1 (by omega)).keep0 (Chg.refl [] w).drew
  have c2 := (k1 2 (by omega)).keep0 (Chg.refl [] w).drew
  rw [HV.out] at c1
  rw [HU.out] at c2
  have HZ : Hid (u.size ≤ 4294967296) := by show _ ≤ _; rw [← HU.out]; exact hz 2
  have hE : Hid (setE 3 ws = if codeB v then qtyE u else 8) := by show _ = _; rw [← HV.out, ← HU.out]; rfl
  have hP : Hid (setP (docs.getD i pf0) 3 ws = { docs.getD i pf0 with cd := v, am := qc (qtyQ u) }) := by show _ = _; rw [← HV.out, ← HU.out]; rfl
  obtain ⟨EE, HEE⟩ := name_it (setE 3 ws)
  obtain ⟨PP, HPP⟩ := name_it (setP (docs.getD i pf0) 3 ws)
  rw [HEE.out, HPP.out]
  rw [HEE.out] at hE
  rw [HPP.out] at hP
  clear hL hi ho how hw hoff hn k1 hz hk hg1 HEE HPP
  obtain ⟨E, HE⟩ := name_it (if codeB v then qtyE u else 8)
  obtain ⟨P2, HP2⟩ := name_it { docs.getD i pf0 with cd := v, am := qc (qtyQ u) }
  rw [HE.out] at hE
  rw [HP2.out] at hP
  have HCA : Hid (∀ W, OwnPf W (.slice (some ⟨g, 0, none⟩) L cap) docs → Calls Tryz.prog 93 #[.pointer (some ⟨g, o, none⟩), .string v, .string u] W (SetPo docs i g L cap E P2 W)) := by
    show ∀ _, _
    intro W hW
    have := setAmount_any docs i g o L cap v u W hW HL.out HI.out HO.out (by have := HZ.out; omega)
    rw [HE.out, HP2.out] at this; exact this
  go_enter Tryz.func64, Tryz.ntmps64
  go_wp2_with fail
  go_region_held3 (fun w' => w'.cell? ⟨g1, o1 + 1, none⟩ = some (.string v) ∧ w'.cell? ⟨g1, o1 + 2, none⟩ = some (.string u)) (first | exact ⟨c1.c0, c2.c0⟩) (first
    | (go_at_call 93
       refine (HCA.out _ HW.out).mono ?_
       rintro e w3 ⟨p', rfl, hp, hs, c3⟩
       have HPQ := Lib.hid hp
       have HS2 := Lib.hid hs
       clear hp hs
       replace c1 := c1.keep c3 (by have := HG1.out; simpa using this)
       replace c2 := c2.keep c3 (by have := HG1.out; simpa using this))
    | fail)
  go_wp2_with fail
  go_ret
  refine ⟨⟨p', ret_eq (by rw [hE.out]; rfl), fun h => ?_, HS2.out, ((Chg.refl [] w).drew.mono (by simp)).same c3⟩⟩
  rw [hP.out]; exact HPQ.out (by rw [← hE.out]; exact h)
set_option maxRecDepth 20000 in
set_option maxHeartbeats 4000000 in
theorem set6_any (docs : List Pf) (i g o L cap : Nat) (ws : List ByteArray) (A : Option Addr) (n c : Nat) (w : World) (how : OwnPf w (.slice (some ⟨g, 0, none⟩) L cap) docs) (hL : docs.length = L) (hi : i < docs.length) (ho : i * 14 = o) (hw : SWd w A ws) (hoff : Off [g] A) (hn : ws.length = n) (hz : ∀ j, (ws.getD j wd0).size ≤ 4294967296) (hk : kindW ws = 6) :
    Calls Tryz.prog 64 #[.pointer (some ⟨g, o, none⟩), .int .i64 6, .slice A n c] w (SetPo docs i g L cap (setE 6 ws) (setP (docs.getD i pf0) 6 ws) w) := by
  have hlen := kind_len hk (by omega)
  rw [if_neg (by omega), if_pos rfl, hn] at hlen
  have hnum := kind_num hk (by omega) (by omega)
  rw [if_pos rfl] at hnum
  subst hlen
  have HW := Lib.hid (how.keep0 (Chg.refl [] w).drew)
  have HL := Lib.hid hL
  have HI := Lib.hid hi
  have HO := Lib.hid ho
  obtain ⟨g1, o1, rfl, l1, k1⟩ := hw (by omega)
  have hg1 : g1 ≠ g := by have := hoff _ rfl; simpa using this
  have HG1 := Lib.hid hg1
  obtain ⟨v, HV⟩ := name_it (ws.getD 1 wd0)
  obtain ⟨u, HU⟩ := name_it (ws.getD 3 wd0)
  have c1 := (k1 1 (by omega)).keep0 (Chg.refl [] w).drew
  have c2 := (k1 3 (by omega)).keep0 (Chg.refl [] w).drew
  rw [HV.out] at c1
  rw [HU.out] at c2 hnum
  have HZ : Hid (v.size ≤ 4294967296) := by show _ ≤ _; rw [← HV.out]; exact hz 1
  have HNU := Lib.hid hnum
  have hE : Hid (setE 6 ws = if qtyE v ≠ 0 then qtyE v else if qtyQ v = 0 then 1 else numE u 1048576) := by show _ = _; rw [← HV.out, ← HU.out]; rfl
  have hP : Hid (setP (docs.getD i pf0) 6 ws = { docs.getD i pf0 with rt := qc (qtyQ v), rf := numV u }) := by show _ = _; rw [← HV.out, ← HU.out]; rfl
  obtain ⟨EE, HEE⟩ := name_it (setE 6 ws)
  obtain ⟨PP, HPP⟩ := name_it (setP (docs.getD i pf0) 6 ws)
  rw [HEE.out, HPP.out]
  rw [HEE.out] at hE
  rw [HPP.out] at hP
  clear hL hi ho how hw hoff hn k1 hz hk hg1 hnum HEE HPP
  obtain ⟨E, HE⟩ := name_it (if qtyE v ≠ 0 then qtyE v else if qtyQ v = 0 then 1 else numE u 1048576)
  obtain ⟨P2, HP2⟩ := name_it { docs.getD i pf0 with rt := qc (qtyQ v), rf := (numV u : Int) }
  rw [HE.out] at hE
  rw [HP2.out] at hP
  have HCA : Hid (∀ W, OwnPf W (.slice (some ⟨g, 0, none⟩) L cap) docs → Calls Tryz.prog 94 #[.pointer (some ⟨g, o, none⟩), .string v, .string u] W (SetPo docs i g L cap E P2 W)) := by
    show ∀ _, _
    intro W hW
    have := setInterest_any docs i g o L cap v u W hW HL.out HI.out HO.out (by have := HZ.out; omega) HNU.out
    rw [HE.out, HP2.out] at this; exact this
  go_enter Tryz.func64, Tryz.ntmps64
  go_wp2_with fail
  go_region_held3 (fun w' => w'.cell? ⟨g1, o1 + 1, none⟩ = some (.string v) ∧ w'.cell? ⟨g1, o1 + 3, none⟩ = some (.string u)) (first | exact ⟨c1.c0, c2.c0⟩) (first
    | (go_at_call 94
       refine (HCA.out _ HW.out).mono ?_
       rintro e w3 ⟨p', rfl, hp, hs, c3⟩
       have HPQ := Lib.hid hp
       have HS2 := Lib.hid hs
       clear hp hs
       replace c1 := c1.keep c3 (by have := HG1.out; simpa using this)
       replace c2 := c2.keep c3 (by have := HG1.out; simpa using this))
    | fail)
  go_wp2_with fail
  go_ret
  refine ⟨⟨p', ret_eq (by rw [hE.out]; rfl), fun h => ?_, HS2.out, ((Chg.refl [] w).drew.mono (by simp)).same c3⟩⟩
  rw [hP.out]; exact HPQ.out (by rw [← hE.out]; exact h)
theorem set_any (docs : List Pf) (i g o L cap : Nat) (ws : List ByteArray) (A : Option Addr) (n c : Nat) (w : World) (how : OwnPf w (.slice (some ⟨g, 0, none⟩) L cap) docs) (hL : docs.length = L) (hi : i < docs.length) (ho : i * 14 = o) (hw : SWd w A ws) (hoff : Off [g] A) (hn : ws.length = n) (hz : ∀ j, (ws.getD j wd0).size ≤ 4294967296) (k : Int) (hk : kindW ws = k) (h1 : 1 ≤ k) :
    Calls Tryz.prog 64 #[.pointer (some ⟨g, o, none⟩), .int .i64 k, .slice A n c] w (SetPo docs i g L cap (setE k ws) (setP (docs.getD i pf0) k ws) w) := by
  have h7 := (kindW_range ws).2
  rcases (by omega : k = 1 ∨ k = 2 ∨ k = 3 ∨ k = 4 ∨ k = 5 ∨ k = 6 ∨ k = 7) with rfl | rfl | rfl | rfl | rfl | rfl | rfl
  · exact set1_any docs i g o L cap ws A n c w how hL hi ho hw hoff hn hz hk
  · exact set2_any docs i g o L cap ws A n c w how hL hi ho hw hoff hn hz hk
  · exact set3_any docs i g o L cap ws A n c w how hL hi ho hw hoff hn hz hk
  · exact set4_any docs i g o L cap ws A n c w how hL hi ho hw hoff hn hz hk
  · exact set5_any docs i g o L cap ws A n c w how hL hi ho hw hoff hn hz hk
  · exact set6_any docs i g o L cap ws A n c w how hL hi ho hw hoff hn hz hk
  · exact set7_any docs i g o L cap ws A n c w how hL hi ho hw hoff hn hz hk
end Go.Proofs.YtogciehmdlfkfaaGreatDoor

/- Part DX7. -/

namespace Go.Proofs.YtogciehmdlfkfaaGreatDoor
open Go.RowKit Nd

structure Blk2 (w : World) (g : Nat) (v0 v1 : Value) : Prop where
  c0 : w.cell? ⟨g, 0, none⟩ = some v0
  c1 : w.cell? ⟨g, 1, none⟩ = some v1
  f0 : w.frozen? ⟨g, 0, none⟩ = false
  f1 : w.frozen? ⟨g, 1, none⟩ = false
  lt : g < w.heap.size
theorem Blk2.alloc (w : World) (v0 v1 : Value) (e : TypeId) : Blk2 (w.alloc (.cells #[v0, v1] e)) w.heap.size v0 v1 := by
  constructor <;> simp
theorem Blk2.keep {gs : List Nat} {w w' : World} {g : Nat} {v0 v1 : Value} (h : Blk2 w g v0 v1) (hc : Chg gs w w') (hg : g ∉ gs) : Blk2 w' g v0 v1 := by
  have hl := h.lt
  refine ⟨(hc.cell hl hg).trans h.c0, (hc.cell hl hg).trans h.c1, ?_, ?_, Nat.lt_of_lt_of_le hl hc.size⟩
  · exact (World.frozen?_of_block (hc.block _ hl hg)).trans h.f0
  · exact (World.frozen?_of_block (hc.block _ hl hg)).trans h.f1
theorem Blk2.keep0 {w w' : World} {g : Nat} {v0 v1 : Value} (h : Blk2 w g v0 v1) (hc : Chg [] w w') : Blk2 w' g v0 v1 := h.keep hc (by simp)
theorem Blk2.st0 {w : World} {g : Nat} {v0 v1 : Value} (h : Blk2 w g v0 v1) (u : Value) : Blk2 (w.setCell ⟨g, 0, none⟩ u) g u v1 := by
  obtain ⟨c0, c1, f0, f1, l⟩ := h
  refine ⟨?_, ?_, ?_, ?_, ?_⟩
  · simp [go_sem, c0]
  · simp [go_sem, c1]
  · rw [World.frozen?_setCell]; exact f0
  · rw [World.frozen?_setCell]; exact f1
  · simpa using l
theorem Blk2.st1 {w : World} {g : Nat} {v0 v1 : Value} (h : Blk2 w g v0 v1) (u : Value) : Blk2 (w.setCell ⟨g, 1, none⟩ u) g v0 u := by
  obtain ⟨c0, c1, f0, f1, l⟩ := h
  refine ⟨?_, ?_, ?_, ?_, ?_⟩
  · simp [go_sem, c0]
  · simp [go_sem, c1]
  · rw [World.frozen?_setCell]; exact f0
  · rw [World.frozen?_setCell]; exact f1
  · simpa using l
/-- The box of a reader: a list of documents of the program's own, the kind of the last line. -/
structure Box (N : Nat) (w : World) (g : Nat) (v : Value) (r : Rdr) : Prop where
  b : Blk2 w g v (.int .i64 r.k)
  own : OwnPf w v r.l
  ne : ∀ x, x ∈ v.ownBlock.toList → x ≠ g ∧ N ≤ x
  gN : N ≤ g
  k1 : -1 ≤ r.k
  k2 : r.k ≤ 7
  l64 : r.l.length ≤ 64
theorem Box.keep0 {N : Nat} {w w' : World} {g : Nat} {v : Value} {r : Rdr} (h : Box N w g v r) (hc : Chg [] w w') : Box N w' g v r :=
  ⟨h.b.keep0 hc, h.own.keep0 hc, h.ne, h.gN, h.k1, h.k2, h.l64⟩

set_option maxRecDepth 20000 in
set_option maxHeartbeats 1000000 in
theorem hasID_any (xs : List Pf) (A : Option Addr) (n c : Nat) (id : ByteArray) (w : World) (hn : xs.length = n) (hn2 : n ≤ 1000000) (hx : SPf w A xs) :
    Calls Tryz.prog 69 #[.slice A n c, .string id] w fun e w' => e = .returned (.bool (xs.any fun p => decide (p.id = id))) ∧ Chg [] w w' := by
  obtain ⟨r, HR⟩ := name_it (xs.any fun p => decide (p.id = id))
  rw [HR.out]
  have HN := Lib.hid hn
  clear hn
  go_enter Tryz.func69, Tryz.ntmps69
  go_wp2
  go_loopw [9] (fun iv wr => ∃ i : Nat, i ≤ n ∧ iv = .int .i64 i ∧ (∀ j, j < i → decide ((xs.getD j pf0).id = id) = false) ∧ SPf wr A xs ∧ Chg [] w wr) (fun iv _ => n - (intOf iv).toNat)
  case atStart => exact ⟨0, by omega, rfl, fun j hj => absurd hj (by omega), hx, Chg.refl _ _⟩
  case round =>
    obtain ⟨i, hi, rfl, hall, hxr, hch⟩ := hrel
    have HA := Lib.hid hall
    clear hall hx
    by_cases hlt : i < n
    · obtain ⟨p, HP⟩ := name_it (xs.getD i pf0)
      have HX1 := Lib.hid hxr
      obtain ⟨g, o, rfl, l1, k1⟩ := hxr (by rw [HN.out]; omega)
      have hc := k1 i (by rw [HN.out]; omega)
      rw [HP.out] at hc
      obtain ⟨y0, y1, y2, y3, y4, y5, y6, y7, y8, y9, y10, y11, y12, y13, _⟩ := hc
      have c1 : Chg [] wr (wr.alloc (.cells #[.string p.id, .int .i64 p.es, .int .i64 p.cr, .string p.cd, .bool p.am.neg, .string p.am.num, .string p.am.den, .int .i64 p.inc, .int .i64 p.rk, .bool p.rt.neg, .string p.rt.num, .string p.rt.den, .int .i64 p.rf, .int .i64 p.sec] 27)) := (Chg.refl _ _).alloc _
      have HX2 := Lib.hid (HX1.out.keep0 c1)
      have hc2 := hch.then c1
      clear k1 c1 HX1
      have q := str_eqB p.id id
      by_cases he : p.id = id
      · have hr : r = true := by
          rw [← HR.out, List.any_eq_true]
          exact ⟨xs.getD i pf0, memPf (by rw [HN.out]; exact hlt), by rw [HP.out]; exact decide_eq_true he⟩
        rw [decide_eq_true he] at q
        have HRR := Lib.hid hr
        clear he hr
        go_wp2
        go_ret
        exact ⟨ret_eq (by rw [HRR.out]; rfl), hc2⟩
      · rw [decide_eq_false he] at q
        have HA2 : Hid (∀ j, j < i + 1 → decide ((xs.getD j pf0).id = id) = false) := by
          show ∀ j, _
          intro j hj
          by_cases hji : j = i
          · rw [hji, HP.out]; exact decide_eq_false he
          · exact HA.out j (by omega)
        clear he
        go_wp2
        go_roundw
        · exact ⟨i + 1, by omega, rfl, HA2.out, HX2.out, hc2⟩
        · simp [intOf]; omega
    · have hr : r = false := by
        rw [← HR.out, List.any_eq_false]
        intro p hp
        obtain ⟨j, hj, rfl⟩ := List.getElem_of_mem hp
        have := HA.out j (by rw [HN.out] at hj; omega)
        rw [List.getD_eq_getElem?_getD, List.getElem?_eq_getElem hj, Option.getD_some] at this
        simpa using this
      have HRR := Lib.hid hr
      have dl : decide ((i : Int) < (n : Int)) = false := by simp; omega
      clear hr
      go_wp2
      go_ret
      exact ⟨ret_eq (by rw [HRR.out]; rfl), hch⟩

set_option maxRecDepth 20000 in
theorem mayEnd_any (N : Nat) (w : World) (g : Nat) (v : Value) (r : Rdr) (hb : Box N w g v r) :
    Calls Tryz.prog 40 #[.pointer (some ⟨g, 0, none⟩)] w fun e w' => e = .returned (.bool (mayE r)) ∧ w' = w := by
  have y1 := hb.b.c1
  have yl := hb.b.lt
  obtain ⟨k, HK⟩ := name_it r.k
  obtain ⟨M, HM⟩ := name_it (mayE r)
  have HMM : Hid (M = (decide (k = -1) || decide (5 ≤ k))) := by show _ = _; rw [← HM.out, ← HK.out]; rfl
  rw [HM.out]
  rw [HK.out] at y1
  clear hb
  by_cases h : k = -1
  · have d : (k == -1) = true := by simpa using h
    rw [decide_eq_true h, Bool.true_or] at HMM
    clear h
    go_enter Tryz.func40, Tryz.ntmps40
    go_wp2
    go_ret
    exact ⟨ret_eq (by rw [HMM.out]; rfl), rfl⟩
  · have d : (k == -1) = false := by simpa using h
    rw [decide_eq_false h, Bool.false_or] at HMM
    clear h
    go_enter Tryz.func40, Tryz.ntmps40
    go_wp2
    go_ret
    exact ⟨ret_eq (by rw [HMM.out]; rfl), rfl⟩
set_option maxRecDepth 20000 in
theorem mayFollow_any (N : Nat) (w : World) (g : Nat) (v : Value) (r : Rdr) (kd : Int) (hb : Box N w g v r) :
    Calls Tryz.prog 62 #[.pointer (some ⟨g, 0, none⟩), .int .i64 kd] w fun e w' => e = .returned (.bool (folB r.k kd)) ∧ w' = w := by
  have y1 := hb.b.c1
  have yl := hb.b.lt
  have hk1 := hb.k1
  have hk2 := hb.k2
  have HB := Lib.hid hb
  obtain ⟨M, HM⟩ := name_it (folB r.k kd)
  have HMM : Hid (M = folB r.k kd) := HM.out.symm
  rw [HM.out]
  unfold folB at HMM
  clear hb
  by_cases h0 : kd = 0
  · subst h0
    rw [if_pos rfl] at HMM
    have HE : Hid (mayE r = M) := by
      show _ = _
      rw [HMM.out]; unfold mayE
      rw [Bool.eq_iff_iff]; simp
    clear y1 hk1 hk2
    go_enter Tryz.func62, Tryz.ntmps62
    go_wp2_with (go_at_call 40; refine (mayEnd_any N _ g v r HB.out).mono ?_; rintro e w3 ⟨rfl, rfl⟩; rw [HE.out])
    go_ret
    exact ⟨rfl, rfl⟩
  · have d0 : (kd == 0) = false := by simpa using h0
    rw [if_neg h0] at HMM
    clear h0
    obtain ⟨k, HK⟩ := name_it r.k
    rw [HK.out] at y1 HMM hk1 hk2
    by_cases h5 : kd ≤ 5
    · have d5 : decide (kd ≤ 5) = true := decide_eq_true h5
      rw [if_pos h5] at HMM
      clear h5
      have d6 : (kd == k + 1) = decide (kd = k + 1) := by rw [Bool.eq_iff_iff]; simp
      obtain ⟨b, HBB⟩ := name_it (decide (kd = k + 1))
      rw [HBB.out] at d6 HMM
      go_enter Tryz.func62, Tryz.ntmps62
      go_wp2
      go_ret
      exact ⟨ret_eq (by rw [HMM.out]; rfl), rfl⟩
    · have d5 : decide (kd ≤ 5) = false := decide_eq_false h5
      rw [if_neg h5] at HMM
      clear h5
      by_cases h6 : 5 ≤ k
      · have d6 : decide (5 ≤ k) = true := decide_eq_true h6
        have HM2 : Hid (M = decide (k < kd)) := by show _ = _; rw [HMM.out]; simp [h6]
        clear h6
        obtain ⟨b, HBB⟩ := name_it (decide (k < kd))
        rw [HBB.out] at HM2
        have d7 := HBB.out
        go_enter Tryz.func62, Tryz.ntmps62
        go_wp2
        go_ret
        exact ⟨ret_eq (by rw [HM2.out]; rfl), rfl⟩
      · have d6 : decide (5 ≤ k) = false := decide_eq_false h6
        have HM2 : Hid (M = false) := by show _ = _; rw [HMM.out]; simp [h6]
        clear h6
        go_enter Tryz.func62, Tryz.ntmps62
        go_wp2
        go_ret
        exact ⟨ret_eq (by rw [HM2.out]; rfl), rfl⟩
end Go.Proofs.YtogciehmdlfkfaaGreatDoor
