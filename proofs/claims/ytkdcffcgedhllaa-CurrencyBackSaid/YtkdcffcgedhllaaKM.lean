/-
  Currency: the mathematics: errors of quotes, the latest quote, built quotes.
-/
import Derived.Test.YtkdcffcgedhllaaKC0
namespace Go.Proofs.Ytkdcffcgedhllaa
open Go.RowKit Nd

/-- The code of the base currency. -/
def eur : ByteArray := ⟨#[69, 85, 82]⟩
/-- Whether a quote of the list has the code and the day of q. -/
def dupL (l : List Qt) (q : Qt) : Bool := l.any fun o => decide (o.cd = q.cd) && decide (o.dy = q.dy)
/-- The error of q behind the quotes l. -/
def cqE (l : List Qt) (q : Qt) : Int :=
  if codeB q.cd = false ∨ q.cd = eur then 8 else if isd q.dy = false ∨ sg (ratOf q.rt) ≤ 0 then 1 else if dupL l q = true then 12 else 0
/-- The error of quote i. -/
def qE (l : List Qt) (i : Nat) : Int := cqE (l.take i) (l.getD i qt0)
/-- The first error of n. -/
def fE (f : Nat → Int) : Nat → Int
  | 0 => 0
  | n + 1 => if fE f n = 0 then f n else fE f n
theorem fE_hit {f : Nat → Int} {i : Nat} (h0 : fE f i = 0) (h1 : f i ≠ 0) : ∀ {n : Nat}, i < n → fE f n = f i
  | 0, hi => absurd hi (by omega)
  | n + 1, hi => by
    simp only [fE]
    by_cases e : i = n
    · subst e; rw [if_pos h0]
    · have ih := fE_hit h0 h1 (n := n) (by omega)
      rw [ih, if_neg h1]
theorem fE_zero {f : Nat → Int} : ∀ {n : Nat}, fE f n = 0 → ∀ i, i < n → f i = 0
  | 0, _, i, hi => absurd hi (by omega)
  | n + 1, h, i, hi => by
    simp only [fE] at h
    by_cases h0 : fE f n = 0
    · rw [if_pos h0] at h
      by_cases e : i = n
      · rw [e]; exact h
      · exact fE_zero h0 i (by omega)
    · rw [if_neg h0] at h; exact absurd h h0
theorem fE_none {f : Nat → Int} : ∀ {n : Nat}, (∀ i, i < n → f i = 0) → fE f n = 0
  | 0, _ => rfl
  | n + 1, h => by
    simp only [fE]
    rw [if_pos (fE_none (fun i hi => h i (by omega))), h n (by omega)]
/-- The error of a list of quotes. -/
def chkQ (l : List Qt) : Int := if 256 < l.length then 2 else fE (qE l) l.length
theorem chk_step {l : List Qt} {n i : Nat} {r : Int} (_ : l.length = n) (h : fE (qE l) n = r) (h0 : fE (qE l) i = 0) (hi : i < n) : (qE l i ≠ 0 → r = qE l i) ∧ (qE l i = 0 → fE (qE l) (i + 1) = 0) := by
  refine ⟨fun h1 => by rw [← h]; exact fE_hit h0 h1 hi, fun h1 => ?_⟩
  simp only [fE]; rw [if_pos h0, h1]
theorem cq_code {l : List Qt} {q : Qt} (h : codeB q.cd = false) : cqE l q = 8 := by unfold cqE; rw [if_pos (.inl h)]
theorem cq_eur {l : List Qt} {q : Qt} (h : q.cd = eur) : cqE l q = 8 := by unfold cqE; rw [if_pos (.inr h)]
theorem cq_day {l : List Qt} {q : Qt} (h : codeB q.cd = true) (h2 : q.cd ≠ eur) (h3 : isd q.dy = false) : cqE l q = 1 := by
  unfold cqE; rw [if_neg (by simp [h, h2]), if_pos (.inl h3)]
theorem cq_rate {l : List Qt} {q : Qt} (h : codeB q.cd = true) (h2 : q.cd ≠ eur) (_ : isd q.dy = true) (h4 : sg (ratOf q.rt) ≤ 0) : cqE l q = 1 := by
  unfold cqE; rw [if_neg (by simp [h, h2]), if_pos (.inr h4)]
theorem cq_dup {l : List Qt} {q : Qt} (h : codeB q.cd = true) (h2 : q.cd ≠ eur) (h3 : isd q.dy = true) (h4 : ¬ sg (ratOf q.rt) ≤ 0) : cqE l q = if dupL l q = true then 12 else 0 := by
  unfold cqE; rw [if_neg (by simp [h, h2]), if_neg (by simp [h3]; omega)]
/-- The quotes can be counted with. -/
structure FitQ (l : List Qt) (k : Nat) : Prop where
  pos : 1 ≤ k
  le : k ≤ 1000
  all : ∀ s ∈ l, fits s.rt k
  cod : ∀ s ∈ l, s.cd.size ≤ 1000
theorem FitQ.num {l : List Qt} {k : Nat} (h : FitQ l k) {j : Nat} (hj : j < l.length) : Num (l.getD j qt0).rt (ratOf (l.getD j qt0).rt) k :=
  ⟨rfl, h.all _ (memQt hj), h.pos⟩

/-- The latest quote of a currency among the first n that is not after d; -1: none. -/
def bst (l : List Qt) (c : ByteArray) (d : Int) : Nat → Int
  | 0 => -1
  | n + 1 => if (l.getD n qt0).cd = c ∧ (l.getD n qt0).dy ≤ d ∧ (bst l c d n < 0 ∨ (l.getD (bst l c d n).toNat qt0).dy < (l.getD n qt0).dy) then n else bst l c d n
theorem bst_lo (l : List Qt) (c : ByteArray) (d : Int) : ∀ n, -1 ≤ bst l c d n ∧ bst l c d n < n
  | 0 => ⟨by simp [bst], by simp [bst]⟩
  | n + 1 => by
    have ih := bst_lo l c d n
    simp only [bst]
    split <;> omega
/-- Whether one of the first n quotes is of the currency. -/
def kno (l : List Qt) (c : ByteArray) (n : Nat) : Bool := (l.take n).any fun o => decide (o.cd = c)
theorem kno_zero (l : List Qt) (c : ByteArray) : kno l c 0 = false := by simp [kno]
theorem kno_step (l : List Qt) (c : ByteArray) (n : Nat) (h : n < l.length) : kno l c (n + 1) = (kno l c n || decide ((l.getD n qt0).cd = c)) := by
  unfold kno; rw [take_snocQt l n h, List.any_append]; simp
theorem kno_no {l : List Qt} {c : ByteArray} {d : Int} : ∀ {n : Nat}, n ≤ l.length → kno l c n = false → bst l c d n = -1
  | 0, _, _ => rfl
  | n + 1, hn, h => by
    rw [kno_step l c n (by omega), Bool.or_eq_false_iff] at h
    simp only [bst]
    rw [if_neg (fun h2 => of_decide_eq_false h.2 h2.1)]
    exact kno_no (by omega) h.1
/-- The number 1. -/
def q1 : Q3 := ⟨false, ⟨#[1]⟩, ⟨#[]⟩⟩
/-- The error of a currency on a day. -/
def findE (l : List Qt) (c : ByteArray) (d : Int) : Int := if c = eur then 0 else if kno l c l.length = false then 8 else if bst l c d l.length < 0 then 9 else 0
/-- The rate of a currency on a day. -/
def findV (l : List Qt) (c : ByteArray) (d : Int) : Q3 := if c = eur then q1 else if bst l c d l.length < 0 then q0 else (l.getD (bst l c d l.length).toNat qt0).rt
def onE (l : List Qt) (d : Int) : Int := if chkQ l = 0 then (if isd d = false then 1 else 0) else chkQ l
def rtE (l : List Qt) (c : ByteArray) (d : Int) : Int := if onE l d = 0 then findE l c d else onE l d
def rtV (l : List Qt) (c : ByteArray) (d : Int) : Q3 := if rtE l c d = 0 then findV l c d else q0
theorem rt_on {l : List Qt} {c : ByteArray} {d : Int} (h : onE l d ≠ 0) : rtE l c d = onE l d ∧ rtV l c d = q0 := by
  have e : rtE l c d = onE l d := by unfold rtE; rw [if_neg h]
  exact ⟨e, by unfold rtV; rw [e, if_neg h]⟩
theorem findV_bad {l : List Qt} {c : ByteArray} {d : Int} (h : findE l c d ≠ 0) : findV l c d = q0 := by
  unfold findE at h
  unfold findV
  by_cases hc : c = eur
  · rw [if_pos hc] at h; exact absurd rfl h
  · rw [if_neg hc] at h ⊢
    by_cases hk : kno l c l.length = false
    · rw [if_pos (by rw [kno_no (Nat.le_refl _) hk]; decide)]
    · rw [if_neg hk] at h
      by_cases hb : bst l c d l.length < 0
      · rw [if_pos hb]
      · rw [if_neg hb] at h; exact absurd rfl h
theorem rt_off {l : List Qt} {c : ByteArray} {d : Int} (h : onE l d = 0) : rtE l c d = findE l c d ∧ rtV l c d = findV l c d := by
  have e : rtE l c d = findE l c d := by unfold rtE; rw [if_pos h]
  refine ⟨e, ?_⟩
  unfold rtV
  rw [e]
  split
  · rfl
  · rename_i h2; rw [findV_bad h2]
theorem on_chk {l : List Qt} {d : Int} (h : chkQ l ≠ 0) : onE l d = chkQ l := by unfold onE; rw [if_neg h]
theorem on_day {l : List Qt} {d : Int} (h : chkQ l = 0) (h2 : isd d = false) : onE l d = 1 := by unfold onE; rw [if_pos h, if_pos h2]
theorem on_ok {l : List Qt} {d : Int} (h : chkQ l = 0) (h2 : isd d = true) : onE l d = 0 := by unfold onE; rw [if_pos h, if_neg (by rw [h2]; simp)]
theorem on_chk0 {l : List Qt} {d : Int} (h : onE l d = 0) : chkQ l = 0 := by
  unfold onE at h
  by_cases h0 : chkQ l = 0
  · exact h0
  · rw [if_neg h0] at h; exact absurd h h0
theorem eur_ok {l : List Qt} {c : ByteArray} {d : Int} (h : c = eur) : findE l c d = 0 ∧ findV l c d = q1 := by
  unfold findE findV; rw [if_pos h, if_pos h]; exact ⟨rfl, rfl⟩
theorem find_unknown {l : List Qt} {c : ByteArray} {d : Int} (h : c ≠ eur) (h2 : kno l c l.length = false) : findE l c d = 8 ∧ findV l c d = q0 := by
  unfold findE findV; rw [if_neg h, if_neg h, if_pos h2, if_pos (by rw [kno_no (Nat.le_refl _) h2]; decide)]; exact ⟨rfl, rfl⟩
theorem find_late {l : List Qt} {c : ByteArray} {d : Int} (h : c ≠ eur) (h2 : kno l c l.length = true) (h3 : bst l c d l.length < 0) : findE l c d = 9 ∧ findV l c d = q0 := by
  unfold findE findV; rw [if_neg h, if_neg h, if_neg (by rw [h2]; simp), if_pos h3, if_pos h3]; exact ⟨rfl, rfl⟩
theorem find_hit {l : List Qt} {c : ByteArray} {d : Int} (h : c ≠ eur) (h2 : kno l c l.length = true) (h3 : ¬ bst l c d l.length < 0) : findE l c d = 0 ∧ findV l c d = (l.getD (bst l c d l.length).toNat qt0).rt := by
  unfold findE findV; rw [if_neg h, if_neg h, if_neg (by rw [h2]; simp), if_neg h3, if_neg h3]; exact ⟨rfl, rfl⟩
/-- A list without an error: the days are not before 0, and the rates are positive. -/
theorem chk_good {l : List Qt} (h : chkQ l = 0) {j : Nat} (hj : j < l.length) : l.length ≤ 256 ∧ isd (l.getD j qt0).dy = true ∧ 0 < sg (ratOf (l.getD j qt0).rt) := by
  unfold chkQ at h
  by_cases h256 : 256 < l.length
  · rw [if_pos h256] at h; exact absurd h (by decide)
  · rw [if_neg h256] at h
    have e := fE_zero h j hj
    unfold qE cqE at e
    by_cases a : codeB (l.getD j qt0).cd = false ∨ (l.getD j qt0).cd = eur
    · rw [if_pos a] at e; exact absurd e (by decide)
    · rw [if_neg a] at e
      by_cases b : isd (l.getD j qt0).dy = false ∨ sg (ratOf (l.getD j qt0).rt) ≤ 0
      · rw [if_pos b] at e; exact absurd e (by decide)
      · refine ⟨by omega, ?_, ?_⟩
        · cases hh : isd (l.getD j qt0).dy with
          | true => rfl
          | false => exact absurd (.inl hh) b
        · have : ¬ sg (ratOf (l.getD j qt0).rt) ≤ 0 := fun hh => b (.inr hh)
          omega
end Go.Proofs.Ytkdcffcgedhllaa
