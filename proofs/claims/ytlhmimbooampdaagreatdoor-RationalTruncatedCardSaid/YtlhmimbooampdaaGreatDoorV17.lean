/-
  The reference: what Parse asks; the walks of some, cut, strip and reduced that it calls.
-/
import Derived.Test.YtlhmimbooampdaaGreatDoorV12
import Derived.Test.YtlhmimbooampdaaGreatDoorGH
import Derived.Test.YtlhmimbooampdaaGreatDoorGL
namespace Go.Proofs.YtlhmimbooampdaaGreatDoor
open Go.RowKit Nd

theorem ba_eq {a b : ByteArray} (h : a.data.toList = b.data.toList) : a = b := by
  cases a; cases b; congr; exact Array.toList_inj.1 h
theorem dig_ten2 : dig 4294967296 [10] := by intro x hx; simp at hx; omega
def someD (l : List UInt8) : Bool := !l.isEmpty && l.all isD
theorem cutAt_free {c : UInt8} : ∀ {l : List UInt8}, (∀ j : Nat, l[j]? ≠ some c) → cutAt l c = none
  | [], _ => rfl
  | b :: l, h => by
    have hb : b ≠ c := fun e => h 0 (by simp [e])
    rw [cutAt, if_neg hb, cutAt_free (l := l) (fun j => by have := h (j + 1); simpa using this)]
theorem cutAt_first {c : UInt8} : ∀ {l : List UInt8} {o : Nat}, l[o]? = some c → (∀ j : Nat, j < o → l[j]? ≠ some c) → cutAt l c = some (l.take o, l.drop (o + 1))
  | [], _, h, _ => by simp at h
  | b :: l, 0, h, _ => by
    have hb : b = c := by simpa using h
    rw [cutAt, if_pos hb]; simp
  | b :: l, o + 1, h, hf => by
    have hb : b ≠ c := fun e => hf 0 (by omega) (by simp [e])
    have := cutAt_first (l := l) (o := o) (by simpa using h) (fun j hj => by have := hf (j + 1) (by omega); simpa using this)
    rw [cutAt, if_neg hb, this]; simp
theorem first_cases (l : List UInt8) (c : UInt8) : (∀ j : Nat, l[j]? ≠ some c) ∨ ∃ o : Nat, l[o]? = some c ∧ ∀ j : Nat, j < o → l[j]? ≠ some c := by
  induction l with
  | nil => exact .inl (fun j => by simp)
  | cons b l ih =>
    by_cases hb : b = c
    · exact .inr ⟨0, by simp [hb], fun j hj => absurd hj (by omega)⟩
    · rcases ih with h | ⟨o, h1, h2⟩
      · refine .inl (fun j => ?_)
        cases j with
        | zero => simpa using hb
        | succ j => simpa using h j
      · refine .inr ⟨o + 1, by simpa using h1, fun j hj => ?_⟩
        cases j with
        | zero => simpa using hb
        | succ j => simpa using h2 j (by omega)
theorem all_no {l : List UInt8} {j : Nat} {c : UInt8} (h : l[j]? = some c) (hc : isD c = false) : l.all isD = false := by
  rw [List.all_eq_false]
  exact ⟨c, List.mem_of_getElem? h, by simp [hc]⟩
theorem canD_no {l : List UInt8} {j : Nat} {c : UInt8} (h : l[j]? = some c) (hc : isD c = false) : canD l = false := by
  unfold canD; rw [all_no h hc]; simp
theorem pE_good {l : List UInt8} (h : canD l = true) (hl : l.length ≤ 2000) : pE l = 0 := by unfold pE; rw [if_pos h, if_neg (by omega)]
theorem pE_bad {l : List UInt8} (h : canD l = false) : pE l = 3 := by unfold pE; rw [h]; simp
theorem dE_good {l : List UInt8} (h : someD l = true) (hl : l.length ≤ 2000) : dE l = 0 := by
  unfold someD at h
  simp only [Bool.and_eq_true, Bool.not_eq_true'] at h
  unfold dE; rw [h.1, h.2]; simp [show ¬ 2000 < l.length by omega]
theorem dE_bad {l : List UInt8} (h : someD l = false) : dE l = 3 := by
  unfold someD at h
  unfold dE
  cases h1 : l.isEmpty <;> cases h2 : l.all isD <;> simp [h1, h2] at h ⊢
theorem firstE_3 (a : Int) : firstE a 3 = 3 := by simp [firstE]
theorem firstE_l3 {b : Int} (h : b = 0 ∨ b = 2 ∨ b = 3) : firstE 3 b = 3 := by rcases h with rfl | rfl | rfl <;> simp [firstE]
theorem firstE_00 : firstE 0 0 = 0 := by simp [firstE]
theorem quo_bad {p q : List UInt8} (neg : Bool) (h : (canD p && canD q) = false) : quoE p q = 3 ∧ quoQ neg p q = 0 := by
  have h1 : firstE (pE p) (pE q) = 3 := by
    cases hq : canD q with
    | false => rw [pE_bad hq, firstE_3]
    | true => rw [hq, Bool.and_true] at h; rw [pE_bad h, firstE_l3 (pE_cases q)]
  have h2 : quoE p q = 3 := by unfold quoE; rw [h1]; simp
  exact ⟨h2, by unfold quoQ; rw [h2]; simp⟩
theorem quo_zero {p q : List UInt8} (neg : Bool) (hp : canD p = true) (hq : canD q = true) (lp : p.length ≤ 2000) (lq : q.length ≤ 2000) (h : dv q = 0) : quoE p q = 1 ∧ quoQ neg p q = 0 := by
  have h2 : quoE p q = 1 := by unfold quoE; rw [pE_good hp lp, pE_good hq lq, firstE_00, h]; simp
  exact ⟨h2, by unfold quoQ; rw [h2]; simp⟩
theorem quo_good {p q : List UInt8} (neg : Bool) (hp : canD p = true) (hq : canD q = true) (lp : p.length ≤ 2000) (lq : q.length ≤ 2000) (h : dv q ≠ 0) : quoE p q = 0 ∧ quoQ neg p q = sq neg (dv p) (dv q) := by
  have h2 : quoE p q = 0 := by unfold quoE; rw [pE_good hp lp, pE_good hq lq, firstE_00]; simp [h]
  exact ⟨h2, by unfold quoQ; rw [h2]; simp⟩
theorem dec_bad {a b : List UInt8} (neg : Bool) (h : (canD a && someD b) = false) : decE a b = 3 ∧ decQ neg a b = 0 := by
  have h2 : decE a b = 3 := by
    unfold decE
    cases hq : someD b with
    | false => rw [dE_bad hq, firstE_3]
    | true => rw [hq, Bool.and_true] at h; rw [pE_bad h, firstE_l3 (dE_cases b)]
  exact ⟨h2, by unfold decQ; rw [h2]; simp⟩
theorem dec_good {a b : List UInt8} (neg : Bool) (hp : canD a = true) (hq : someD b = true) (lp : a.length ≤ 2000) (lq : b.length ≤ 2000) : decE a b = 0 ∧ decQ neg a b = sq neg (dv (a ++ b)) (10 ^ b.length) := by
  have h2 : decE a b = 0 := by unfold decE; rw [pE_good hp lp, dE_good hq lq, firstE_00]
  exact ⟨h2, by unfold decQ; rw [h2, dv_append]; simp [Nat.add_comm, Nat.mul_comm]⟩
theorem canD_pos {l : List UInt8} (h : canD l = true) (hn : l ≠ [48]) : dv l ≠ 0 := by
  refine Nat.ne_of_gt (lv_pos (by omega) (canD_noz h hn) ?_)
  intro he
  have : l = [] := by cases l with | nil => rfl | cons c x => simp [dgs] at he
  subst this; simp [canD] at h

theorem pp_dot_bad {l a b : List UInt8} (hc : cutAt (bodyP l) 46 = some (a, b)) (o : Nat) (ho : (bodyP l)[o]? = some 46) (hof : ∀ j : Nat, j < o → (bodyP l)[j]? ≠ some 46) (h : (canD a && someD b) = false) : parseP l = (3, 0) := by
  unfold parseP
  rcases first_cases (bodyP l) 47 with hf | ⟨m, hm, hmf⟩
  · rw [cutAt_free hf, hc]
    have := dec_bad (negP l) h
    simp [this]
  · rw [cutAt_first hm hmf]
    have hne : m ≠ o := by rintro rfl; rw [hm] at ho; simp at ho
    have hb : (canD ((bodyP l).take m) && canD ((bodyP l).drop (m + 1))) = false := by
      rcases Nat.lt_or_gt_of_ne hne with hlt | hlt
      · have : ((bodyP l).drop (m + 1))[o - (m + 1)]? = some 46 := by rw [List.getElem?_drop, show m + 1 + (o - (m + 1)) = o by omega]; exact ho
        rw [canD_no this (by decide)]; simp
      · have : ((bodyP l).take m)[o]? = some 46 := by rw [List.getElem?_take, if_pos hlt]; exact ho
        rw [canD_no this (by decide)]; simp
    have := quo_bad (negP l) hb
    simp [this]
theorem pp_dot_good {l a b : List UInt8} (hc : cutAt (bodyP l) 46 = some (a, b)) (o : Nat) (ha : a = (bodyP l).take o) (hb : b = (bodyP l).drop (o + 1)) (ho : (bodyP l)[o]? = some 46) (hp : canD a = true) (hq : someD b = true) (lp : a.length ≤ 2000) (lq : b.length ≤ 2000) :
    parseP l = (0, sq (negP l) (dv (a ++ b)) (10 ^ b.length)) := by
  unfold parseP
  rcases first_cases (bodyP l) 47 with hf | ⟨m, hm, hmf⟩
  · rw [cutAt_free hf, hc]
    have := dec_good (negP l) hp hq lp lq
    simp [this]
  · exfalso
    have hne : m ≠ o := by rintro rfl; rw [hm] at ho; simp at ho
    rcases Nat.lt_or_gt_of_ne hne with hlt | hlt
    · have : a[m]? = some 47 := by rw [ha, List.getElem?_take, if_pos hlt]; exact hm
      rw [canD_no this (by decide)] at hp; cases hp
    · have : b[m - (o + 1)]? = some 47 := by rw [hb, List.getElem?_drop, show o + 1 + (m - (o + 1)) = m by omega]; exact hm
      unfold someD at hq
      rw [all_no this (by decide)] at hq; simp at hq
theorem pp_slash {l p q : List UInt8} (hc : cutAt (bodyP l) 47 = some (p, q)) : parseP l = (quoE p q, quoQ (negP l) p q) := by unfold parseP; rw [hc]
theorem pp_int {l : List UInt8} (h1 : cutAt (bodyP l) 47 = none) (h2 : cutAt (bodyP l) 46 = none) : parseP l = (quoE (bodyP l) [49], quoQ (negP l) (bodyP l) [49]) := by unfold parseP; rw [h1, h2]
theorem pair_eq {l : List UInt8} {a : Int} {b : Rat} (h1 : (parseP l).1 = a) (h2 : (parseP l).2 = b) : parseP l = (a, b) := by rw [← h1, ← h2]

theorem strip_sl {v : Value} {L : List Nat} (w : World) (h : Sl w v L) (nL : noz L) :
    Calls Tryz.prog 67 #[v] w fun e w' => e = .returned v ∧ w = w' := by
  cases h with
  | nil => exact strip_nil w
  | row g c _ hr =>
    refine (strip_row g c L w hr).mono ?_
    rintro e w' ⟨rfl, rfl⟩
    exact ⟨by rw [trim_of_noz L nL], rfl⟩
theorem reduced_sl (neg : Bool) {v : Value} {A : List Nat} (gb cb : Nat) (C : List Nat) (w : World) {n d : Nat} (hA : Sl w v A) (hC : Row 30 .u32 w gb cb C) (dA : dig 4294967296 A) (dC : dig 4294967296 C) (nA : noz A) (nC : noz C)
    (la : A.length ≤ 1099511627775) (lc : C.length ≤ 1099511627775) (hn : lv 4294967296 A = n) (hd : lv 4294967296 C = d) (zC : d ≠ 0) :
    Calls Tryz.prog 61 #[.bool neg, v, .slice (some ⟨gb, 0, none⟩) C.length cb] w fun e w' => ∃ x : Q3, e = .returned (.agg #[.bool x.neg, .string x.num, .string x.den]) ∧ Enc x (sq neg n d) ∧ Chg [] w w' := by
  cases hA with
  | nil =>
    obtain rfl : 0 = n := hn
    refine (reduced_nil neg _ w).mono ?_
    rintro e w' ⟨rfl, c⟩
    exact ⟨⟨false, ⟨#[]⟩, ⟨#[]⟩⟩, rfl, by rw [sq_zero]; exact Enc_zero, c⟩
  | row g c _ hr =>
    by_cases h0 : A = []
    · subst h0
      obtain rfl : 0 = n := hn
      refine (reduced_zero neg g c _ w).mono ?_
      rintro e w' ⟨rfl, c⟩
      exact ⟨⟨false, ⟨#[]⟩, ⟨#[]⟩⟩, rfl, by rw [sq_zero]; exact Enc_zero, c⟩
    · refine (reduced_any neg g c gb cb A C w hr hC dA dC nA nC la lc (Nat.ne_of_gt (lv_pos (by omega) nA h0)) (by rw [hd]; exact zC)).mono ?_
      rintro e w' ⟨x, rfl, hx, c⟩
      rw [hn, hd] at hx
      exact ⟨x, rfl, hx, c⟩

end Go.Proofs.YtlhmimbooampdaaGreatDoor
