/-
  The mathematics of business days: weekdays are numbered; the closed days; the n-th business day.
-/
import Derived.Lib.SlicesCompact
namespace Go.Proofs.Ytfmbekdhkilflaa

/-- A weekday, from Monday to Friday. -/
def wkd (d : Int) : Bool := decide (d % 7 < 5)
/-- The number of weekdays ahead of a day. -/
def num (d : Int) : Int := d / 7 * 5 + min (d % 7) 5
/-- The weekday with a number. -/
def numd (k : Int) : Int := k / 5 * 7 + k % 5
/-- A weekday that is no holiday. -/
def bus (zs : List Int) (d : Int) : Bool := wkd d && !zs.contains d
/-- A weekday that is a holiday. -/
def hol (zs : List Int) (d : Int) : Bool := wkd d && zs.contains d
/-- How many of the days a, a + 1 .. a + n - 1 have P. -/
def cnt (P : Int → Bool) (a : Int) : Nat → Nat
  | 0 => 0
  | n + 1 => cnt P a n + if P (a + n) then 1 else 0

theorem num_succ (d : Int) (_ : 0 ≤ d) : num (d + 1) = num d + if wkd d then 1 else 0 := by
  unfold num wkd
  by_cases e : d % 7 < 5
  · simp only [e, decide_true, if_true]; omega
  · simp only [e, decide_false]; simp; omega
theorem num_mono {a b : Int} (h : a ≤ b) : num a ≤ num b := by unfold num; omega
theorem num_nonneg {a : Int} (h : 0 ≤ a) : 0 ≤ num a := by unfold num; omega
theorem num_le {a : Int} (h : 0 ≤ a) : num a ≤ a := by unfold num; omega
theorem num_lt {a b : Int} (h : a < b) (ha : wkd a = true) : num a < num b := by
  unfold wkd at ha; unfold num
  have : a % 7 < 5 := by simpa using ha
  omega
theorem lt_of_num {a b : Int} (h : num a < num b) : a < b := by
  rcases Int.lt_or_le a b with h1 | h1
  · exact h1
  · have := num_mono h1; omega
theorem wkd_numd (k : Int) : wkd (numd k) = true := by unfold wkd numd; simp; omega
theorem num_numd (k : Int) : num (numd k) = k := by unfold num numd; omega
theorem numd_bd {k : Int} (h : 0 ≤ k) : k ≤ numd k ∧ numd k ≤ 2 * k := by unfold numd; omega
theorem le_numd {a k : Int} (h : num a ≤ k) : a ≤ numd k := by
  rcases Int.lt_or_le (numd k) a with h1 | h1
  · have := num_lt h1 (wkd_numd k); rw [num_numd] at this; omega
  · exact h1
theorem num_gap (a n : Int) (_ : 0 ≤ a) (_ : 0 ≤ n) : num a + n * 5 / 7 - 5 ≤ num (a + n) := by unfold num; omega

theorem cnt_left (P : Int → Bool) (a : Int) : ∀ n, cnt P a (n + 1) = (if P a then 1 else 0) + cnt P (a + 1) n
  | 0 => by simp [cnt]
  | n + 1 => by
    rw [cnt, cnt_left P a n, cnt]
    have : a + ((n + 1 : Nat) : Int) = a + 1 + (n : Int) := by push_cast; omega
    rw [this]; omega
theorem cnt_add (P : Int → Bool) (a : Int) (n : Nat) : ∀ m : Nat, cnt P a (n + m) = cnt P a n + cnt P (a + n) m
  | 0 => by simp [cnt]
  | m + 1 => by
    rw [← Nat.add_assoc, cnt, cnt_add P a n m, cnt]
    have : a + ((n + m : Nat) : Int) = a + (n : Int) + (m : Int) := by push_cast; omega
    rw [this]; omega
theorem cnt_mono (P : Int → Bool) (a : Int) {n m : Nat} (h : n ≤ m) : cnt P a n ≤ cnt P a m := by
  obtain ⟨k, rfl⟩ : ∃ k, m = n + k := ⟨m - n, by omega⟩
  rw [cnt_add]; omega
theorem cnt_congr {P Q : Int → Bool} (h : ∀ d, P d = Q d) (a : Int) : ∀ n, cnt P a n = cnt Q a n
  | 0 => rfl
  | n + 1 => by rw [cnt, cnt, cnt_congr h a n, h]
theorem cnt_wkd (a : Int) (h : 0 ≤ a) : ∀ n : Nat, (cnt wkd a n : Int) = num (a + n) - num a
  | 0 => by simp [cnt]
  | n + 1 => by
    rw [cnt]
    have e := num_succ (a + n) (by omega)
    have e2 := cnt_wkd a h n
    have e3 : a + ((n + 1 : Nat) : Int) = a + (n : Int) + 1 := by push_cast; omega
    rw [e3, e]
    by_cases c : wkd (a + n) = true
    · simp only [c, if_true] at *; omega
    · simp only [c] at *; simp; omega
theorem cnt_bus (zs : List Int) (a : Int) : ∀ n : Nat, cnt wkd a n = cnt (bus zs) a n + cnt (hol zs) a n
  | 0 => rfl
  | n + 1 => by
    rw [cnt, cnt, cnt, cnt_bus zs a n]
    unfold bus hol
    cases wkd (a + n) <;> cases zs.contains (a + n) <;> simp <;> omega

/-- An ascending list of just the days of an interval that have Q: its length is their number. -/
theorem asc_len (Q : Int → Bool) : ∀ (n : Nat) (a : Int) (L : List Int), L.Pairwise (· < ·) → (∀ x, x ∈ L ↔ a ≤ x ∧ x < a + n ∧ Q x = true) → L.length = cnt Q a n
  | 0, a, L, _, hm => by
    cases L with
    | nil => rfl
    | cons x r => have := (hm x).1 (by simp); omega
  | n + 1, a, L, hp, hm => by
    rw [cnt_left]
    by_cases c : Q a = true
    · rw [if_pos c]
      have ha := (hm a).2 ⟨by omega, by push_cast; omega, c⟩
      cases L with
      | nil => cases ha
      | cons x r =>
        have hx := (hm x).1 (by simp)
        obtain ⟨h1, h2⟩ := List.pairwise_cons.1 hp
        have e : x = a := by
          rcases List.mem_cons.1 ha with h | h
          · exact h.symm
          · have := h1 a h; omega
        subst e
        rw [List.length_cons, asc_len Q n (x + 1) r h2 ?_]
        · omega
        · intro y
          constructor
          · intro hy
            have h3 := (hm y).1 (by simp [hy])
            have h4 := h1 y hy
            refine ⟨by omega, ?_, h3.2.2⟩
            have := h3.2.1; push_cast at this; omega
          · rintro ⟨h3, h4, h5⟩
            rcases List.mem_cons.1 ((hm y).2 ⟨by omega, by push_cast; omega, h5⟩) with h | h
            · omega
            · exact h
    · rw [if_neg c, Nat.zero_add]
      refine asc_len Q n (a + 1) L hp fun y => ⟨fun hy => ?_, fun ⟨h3, h4, h5⟩ => (hm y).2 ⟨by omega, by push_cast; omega, h5⟩⟩
      obtain ⟨h3, h4, h5⟩ := (hm y).1 hy
      have : y ≠ a := fun e => c (e ▸ h5)
      exact ⟨by omega, by push_cast at h4; omega, h5⟩

/-! ### the list of closed days -/
theorem comp_asc (d : Array Int) (hs : ∀ i j, i ≤ j → j < d.size → d[i]! ≤ d[j]!) : ∀ m, m ≤ d.size →
    (Lib.compactUpTo d m).Pairwise (· < ·) ∧ (∀ x, x ∈ Lib.compactUpTo d m ↔ ∃ j, j < m ∧ d[j]! = x)
  | 0, _ => by simp [Lib.compactUpTo]
  | m + 1, hm => by
    obtain ⟨h1, h2⟩ := comp_asc d hs m (by omega)
    rw [Lib.compactUpTo_succ]
    by_cases c : Lib.keeps d m = true
    · rw [if_pos c]
      refine ⟨List.pairwise_append.2 ⟨h1, by simp, ?_⟩, fun x => ?_⟩
      · intro x hx y hy
        obtain ⟨j, hj, rfl⟩ := (h2 x).1 hx
        obtain rfl : y = d[m]! := by simpa using hy
        have hle := hs j (m - 1) (by omega) (by omega)
        have hle2 := hs (m - 1) m (by omega) (by omega)
        have : d[m]! ≠ d[m - 1]! := by
          have := c; unfold Lib.keeps at this
          rcases of_decide_eq_true this with h | h
          · omega
          · exact h
        omega
      · rw [List.mem_append, h2]
        constructor
        · rintro (⟨j, hj, e⟩ | h)
          · exact ⟨j, by omega, e⟩
          · exact ⟨m, by omega, by simpa using (List.mem_singleton.1 h).symm⟩
        · rintro ⟨j, hj, e⟩
          by_cases hjm : j = m
          · subst hjm; exact .inr (by simp [e])
          · exact .inl ⟨j, by omega, e⟩
    · rw [if_neg c, List.append_nil]
      refine ⟨h1, fun x => ?_⟩
      rw [h2]
      constructor
      · rintro ⟨j, hj, e⟩; exact ⟨j, by omega, e⟩
      · rintro ⟨j, hj, e⟩
        by_cases hjm : j = m
        · subst hjm
          have hn : ¬ (j = 0 ∨ d[j]! ≠ d[j - 1]!) := fun h => c (by unfold Lib.keeps; exact decide_eq_true h)
          have h0 : j ≠ 0 := fun h => hn (.inl h)
          have he : d[j]! = d[j - 1]! := Decidable.byContradiction fun h => hn (.inr h)
          exact ⟨j - 1, by omega, by rw [← he]; exact e⟩
        · exact ⟨j, by omega, e⟩
theorem comp_len (d : Array Int) (m : Nat) : (Lib.compactUpTo d m).length ≤ m := by
  unfold Lib.compactUpTo
  rw [List.length_map]
  exact Nat.le_trans (List.length_filter_le _ _) (by simp)

/-- The days of a list that lie in an interval and are weekdays, in their order. -/
def filt (zs : List Int) (a b : Int) : List Int := zs.filter fun z => decide (a ≤ z) && decide (z < b) && wkd z
def srt (zs : List Int) (a b : Int) : List Int := (filt zs a b).mergeSort fun x y => decide (x ≤ y)
/-- The closed days: sorted, each one once. -/
def clo (zs : List Int) (a b : Int) : List Int := Lib.compactUpTo (srt zs a b).toArray (srt zs a b).length

theorem filt_len (zs : List Int) (a b : Int) : (filt zs a b).length ≤ zs.length := List.length_filter_le _ _
theorem srt_len (zs : List Int) (a b : Int) : (srt zs a b).length = (filt zs a b).length := List.length_mergeSort _
theorem clo_le (zs : List Int) (a b : Int) : (clo zs a b).length ≤ (filt zs a b).length := by rw [← srt_len]; exact comp_len _ _
theorem clo_len (zs : List Int) (a b : Int) : (clo zs a b).length ≤ zs.length := Nat.le_trans (clo_le zs a b) (filt_len zs a b)
theorem srt_asc (zs : List Int) (a b : Int) : ∀ i j, i ≤ j → j < (srt zs a b).toArray.size → (srt zs a b).toArray[i]! ≤ (srt zs a b).toArray[j]! := by
  have h : (srt zs a b).Pairwise (fun x y => decide (x ≤ y) = true) := List.pairwise_mergeSort (fun x y z h1 h2 => by simp at *; omega) (fun x y => by simp; omega) _
  intro i j hij hj
  have hj' : j < (srt zs a b).length := by simpa using hj
  have hi' : i < (srt zs a b).length := by omega
  have e1 : (srt zs a b).toArray[i]! = (srt zs a b)[i] := by simp [hi']
  have e2 : (srt zs a b).toArray[j]! = (srt zs a b)[j] := by simp [hj']
  rw [e1, e2]
  by_cases e : i = j
  · subst e; exact Int.le_refl _
  · have := List.pairwise_iff_getElem.1 h i j hi' hj' (by omega); simpa using this
theorem clo_asc (zs : List Int) (a b : Int) : (clo zs a b).Pairwise (· < ·) := (comp_asc _ (srt_asc zs a b) _ (by simp)).1
theorem clo_mem (zs : List Int) (a b : Int) (x : Int) : x ∈ clo zs a b ↔ a ≤ x ∧ x < b ∧ hol zs x = true := by
  have h1 := (comp_asc _ (srt_asc zs a b) (srt zs a b).length (by simp)).2 x
  have h2 : (∃ j, j < (srt zs a b).length ∧ (srt zs a b).toArray[j]! = x) ↔ x ∈ srt zs a b := by
    constructor
    · rintro ⟨j, hj, rfl⟩
      have e1 : (srt zs a b).toArray[j]! = (srt zs a b)[j] := by simp [hj]
      rw [e1]; exact List.getElem_mem hj
    · intro h
      obtain ⟨j, hj, rfl⟩ := List.mem_iff_getElem.1 h
      exact ⟨j, hj, by simp [hj]⟩
  unfold clo
  rw [h1, h2]
  unfold srt
  rw [List.mem_mergeSort]
  unfold filt hol
  simp only [List.mem_filter, Bool.and_eq_true, decide_eq_true_eq, List.contains_iff_mem]
  constructor
  · rintro ⟨h, ⟨h3, h4⟩, h5⟩; exact ⟨h3, h4, h5, h⟩
  · rintro ⟨h3, h4, h5, h⟩; exact ⟨h, ⟨h3, h4⟩, h5⟩
theorem clo_cnt (zs : List Int) (a : Int) (n : Nat) : (clo zs a (a + n)).length = cnt (hol zs) a n :=
  asc_len _ n a _ (clo_asc zs _ _) (clo_mem zs _ _)
/-- What Count returns. -/
theorem count_eq (zs : List Int) (a : Int) (n : Nat) (h : 0 ≤ a) : num (a + n) - num a - (clo zs a (a + n)).length = (cnt (bus zs) a n : Int) := by
  have h1 := cnt_wkd a h n
  have h2 := cnt_bus zs a n
  have h3 := clo_cnt zs a n
  omega

/-! ### the n-th business day -/
/-- v is the first business day from a on with m business days between, or there is none up to day 1048576. -/
def Nth (zs : List Int) (a : Int) (m : Nat) : Option Int → Prop
  | some d => a ≤ d ∧ d ≤ 1048576 ∧ bus zs d = true ∧ cnt (bus zs) a (d - a).toNat = m
  | none => cnt (bus zs) a (1048577 - a).toNat ≤ m

theorem cnt_day {P : Int → Bool} {a d : Int} (h : a ≤ d) (hd : P d = true) : cnt P a ((d - a).toNat + 1) = cnt P a (d - a).toNat + 1 := by
  rw [cnt, show a + ((d - a).toNat : Int) = d by omega, if_pos hd]
theorem Nth.unique {zs : List Int} {a : Int} {m : Nat} : ∀ {u v : Option Int}, Nth zs a m u → Nth zs a m v → u = v
  | none, none, _, _ => rfl
  | some d, none, ⟨h1, h2, h3, h4⟩, hv => by
    have e := cnt_day h1 h3
    have := cnt_mono (bus zs) a (show (d - a).toNat + 1 ≤ (1048577 - a).toNat by omega)
    have hv : cnt (bus zs) a (1048577 - a).toNat ≤ m := hv
    omega
  | none, some d, hv, ⟨h1, h2, h3, h4⟩ => by
    have e := cnt_day h1 h3
    have := cnt_mono (bus zs) a (show (d - a).toNat + 1 ≤ (1048577 - a).toNat by omega)
    have hv : cnt (bus zs) a (1048577 - a).toNat ≤ m := hv
    omega
  | some c, some d, ⟨h1, h2, h3, h4⟩, ⟨k1, k2, k3, k4⟩ => by
    congr 1
    rcases Int.lt_trichotomy c d with h | h | h
    · have e := cnt_day h1 h3
      have := cnt_mono (bus zs) a (show (c - a).toNat + 1 ≤ (d - a).toNat by omega)
      omega
    · exact h
    · have e := cnt_day k1 k3
      have := cnt_mono (bus zs) a (show (d - a).toNat + 1 ≤ (c - a).toNat by omega)
      omega

/-- The search of later has gone over j closed days. -/
structure Lat (zs : List Int) (a : Int) (K : Int) (j : Nat) : Prop where
  le : j ≤ (clo zs a 1048577).length
  low : ∀ i, i < j → num ((clo zs a 1048577).getD i 0) ≤ K + i
/-- .. and stops there. -/
def Stop (zs : List Int) (a : Int) (K : Int) (j : Nat) : Prop := j = (clo zs a 1048577).length ∨ K + j < num ((clo zs a 1048577).getD j 0)

theorem getD_lt {L : List Int} (hp : L.Pairwise (· < ·)) {i j : Nat} (h : i < j) (hj : j < L.length) : L.getD i 0 < L.getD j 0 := by
  have := List.pairwise_iff_getElem.1 hp i j (by omega) hj h
  rw [List.getD_eq_getElem?_getD, List.getD_eq_getElem?_getD, List.getElem?_eq_getElem (by omega), List.getElem?_eq_getElem hj]
  exact this
theorem getD_mem {L : List Int} {i : Nat} (h : i < L.length) : L.getD i 0 ∈ L := by
  rw [List.getD_eq_getElem?_getD, List.getElem?_eq_getElem h]; exact List.getElem_mem h
theorem mem_getD {L : List Int} {x : Int} (h : x ∈ L) : ∃ i, i < L.length ∧ L.getD i 0 = x := by
  obtain ⟨i, hi, rfl⟩ := List.mem_iff_getElem.1 h
  exact ⟨i, hi, by rw [List.getD_eq_getElem?_getD, List.getElem?_eq_getElem hi]; rfl⟩

theorem later_nth (zs : List Int) (a : Int) (m j : Nat) (ha : 0 ≤ a) (ha2 : a ≤ 1048577) (h : Lat zs a (num a + m) j) (hs : Stop zs a (num a + m) j) :
    Nth zs a m (if numd (num a + m + j) ≤ 1048576 then some (numd (num a + m + j)) else none) := by
  have hp := clo_asc zs a 1048577
  have hle := h.le
  obtain ⟨e, he⟩ : ∃ e, e = numd (num a + m + j) := ⟨_, rfl⟩
  have hne : num e = num a + m + j := by rw [he, num_numd]
  have hwe : wkd e = true := by rw [he]; exact wkd_numd _
  have hae : a ≤ e := by rw [he]; exact le_numd (by omega)
  rw [← he]
  have below : ∀ i, i < (clo zs a 1048577).length → i < j → (clo zs a 1048577).getD i 0 < e := fun i _ hij => lt_of_num (by have := h.low i hij; omega)
  have above : ∀ i, i < (clo zs a 1048577).length → j ≤ i → e < (clo zs a 1048577).getD i 0 := fun i hi hij => by
    rcases hs with hs | hs
    · omega
    · apply lt_of_num
      by_cases c : i = j
      · subst c; omega
      · have h1 := num_mono (Int.le_of_lt (getD_lt hp (show j < i by omega) hi)); omega
  by_cases c : e ≤ 1048576
  · rw [if_pos c]
    have hno : zs.contains e = false := by
      cases hc : zs.contains e with
      | false => rfl
      | true =>
        obtain ⟨i, hi, hie⟩ := mem_getD ((clo_mem zs a 1048577 e).2 ⟨hae, by omega, by unfold hol; rw [hwe, hc]; rfl⟩)
        by_cases hij : i < j
        · have := below i hi hij; omega
        · have := above i hi (by omega); omega
    refine ⟨hae, c, by unfold bus; rw [hwe, hno]; rfl, ?_⟩
    have h1 := cnt_wkd a ha (e - a).toNat
    have h2 := cnt_bus zs a (e - a).toNat
    have h3 : ((clo zs a 1048577).take j).length = cnt (hol zs) a (e - a).toNat := by
      refine asc_len _ _ a _ (hp.sublist (List.take_sublist _ _)) fun x => ?_
      rw [show a + ((e - a).toNat : Int) = e by omega]
      constructor
      · intro hx
        obtain ⟨i, hi, rfl⟩ := List.mem_iff_getElem.1 hx
        rw [List.length_take] at hi
        have hi2 : i < (clo zs a 1048577).length := by omega
        have e1 : ((clo zs a 1048577).take j)[i] = (clo zs a 1048577).getD i 0 := by
          rw [List.getElem_take, List.getD_eq_getElem?_getD, List.getElem?_eq_getElem hi2]; rfl
        rw [e1]
        obtain ⟨k1, k2, k3⟩ := (clo_mem zs a 1048577 _).1 (getD_mem hi2)
        exact ⟨k1, below i hi2 (by omega), k3⟩
      · rintro ⟨k1, k2, k3⟩
        obtain ⟨i, hi, hie⟩ := mem_getD ((clo_mem zs a 1048577 x).2 ⟨k1, by omega, k3⟩)
        have hij : i < j := by
          rcases Nat.lt_or_ge i j with h | h
          · exact h
          · have := above i hi h; omega
        refine List.mem_iff_getElem.2 ⟨i, by rw [List.length_take]; omega, ?_⟩
        rw [List.getElem_take]
        rw [List.getD_eq_getElem?_getD, List.getElem?_eq_getElem hi] at hie
        exact hie
    rw [List.length_take] at h3
    rw [show a + ((e - a).toNat : Int) = e by omega] at h1
    omega
  · rw [if_neg c]
    show cnt (bus zs) a (1048577 - a).toNat ≤ m
    have hj : j = (clo zs a 1048577).length := by
      rcases hs with hs | hs
      · exact hs
      · rcases Nat.lt_or_ge j (clo zs a 1048577).length with hlt | hge
        · have h1 := (clo_mem zs a 1048577 _).1 (getD_mem hlt)
          have h2 := above j hlt (Nat.le_refl _)
          omega
        · omega
    have h1 := count_eq zs a (1048577 - a).toNat ha
    rw [show a + ((1048577 - a).toNat : Int) = 1048577 by omega, ← hj] at h1
    have h2 := num_mono (show (1048577 : Int) ≤ e by omega)
    omega

/-- The reference's search: from a on up to c nothing was found; t business days were passed. -/
theorem bus_bound (zs : List Int) (a : Int) (n : Nat) (ha : 0 ≤ a) : num (a + n) - num a ≤ (cnt (bus zs) a n : Int) + zs.length := by
  have h := count_eq zs a n ha
  have := clo_len zs a (a + n)
  omega
/-- Early in the calendar the day is always found, soon. -/
theorem Nth.soon {zs : List Int} {a : Int} {m : Nat} (hz : zs.length ≤ 1000) (ha : 0 ≤ a) (ha2 : a ≤ 100000) (hm : m ≤ 1000) : ∀ {v : Option Int}, Nth zs a m v → ∃ d, v = some d ∧ a ≤ d ∧ d ≤ 6000 + a ∧ bus zs d = true ∧ cnt (bus zs) a (d - a).toNat = m
  | none, h => by
    have h : cnt (bus zs) a (1048577 - a).toNat ≤ m := h
    have h1 := bus_bound zs a 6000 ha
    have h2 := num_gap a 6000 ha (by omega)
    have h3 := cnt_mono (bus zs) a (show 6000 ≤ (1048577 - a).toNat by omega)
    have h4 : num (a + ((6000 : Nat) : Int)) = num (a + 6000) := rfl
    omega
  | some d, ⟨h1, h2, h3, h4⟩ => by
    refine ⟨d, rfl, h1, ?_, h3, h4⟩
    rcases Int.lt_or_le (6000 + a) d with h | h
    · have h1 := bus_bound zs a 6000 ha
      have h2 := num_gap a 6000 ha (by omega)
      have h3 := cnt_mono (bus zs) a (show 6000 ≤ (d - a).toNat by omega)
      have h4 : num (a + ((6000 : Nat) : Int)) = num (a + 6000) := rfl
      omega
    · exact h
theorem bus_mem_congr {zs ys : List Int} (h : ∀ x, x ∈ zs ↔ x ∈ ys) (d : Int) : bus zs d = bus ys d := by
  unfold bus
  have : zs.contains d = ys.contains d := by rw [Bool.eq_iff_iff]; simp [h]
  rw [this]
end Go.Proofs.Ytfmbekdhkilflaa
