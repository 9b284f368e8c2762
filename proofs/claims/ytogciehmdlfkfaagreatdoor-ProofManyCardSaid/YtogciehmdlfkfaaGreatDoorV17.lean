/-
  The reference: what Parse asks; the walks of some, cut, strip and reduced that it calls.
-/
import Derived.Test.YtogciehmdlfkfaaGreatDoorV12
import Derived.Test.YtogciehmdlfkfaaGreatDoorGH
import Derived.Test.YtogciehmdlfkfaaGreatDoorGL
namespace Go.Proofs.YtogciehmdlfkfaaGreatDoor
open Go.RowKit Nd

theorem ba_eq {a b : ByteArray} (h : a.data.toList = b.data.toList) : a = b := by
  cases a; cases b; congr; exact Array.toList_inj.1 h
theorem dig_ten2 : dig 4294967296 [10] := by intro x hx; simp at hx; omega
def someD (l : List UInt8) : Bool := !l.isEmpty && l.all isD
theorem cutAt_free {c : UInt8} : ∀ {l : List UInt8}, (∀ j : Nat, l[j]? ≠ some c) → cutAt l c = none
  | [], _ => rfl
  | b :: l, h => by
    have hb : b ≠ c := fun e => h 0 (by simp [e])
    rw [cutAt, if_neg hb, cutAt_free (l := l) (fun j => by have := h (j + 1); simpa using this)]
theorem cutAt_first {c : UInt8} : ∀ {l : List UInt8} {o : Nat}, l[o]? = some c → (∀ j : Nat, j < o → l[j]? ≠ some c) → cutAt l c = some (l.take o, l.drop (o + 1))
  | [], _, h, _ => by simp at h
  | b :: l, 0, h, _ => by
    have hb : b = c := by simpa using h
    rw [cutAt, if_pos hb]; simp
  | b :: l, o + 1, h, hf => by
    have hb : b ≠ c := fun e => hf 0 (by omega) (by simp [e])
    have := cutAt_first (l := l) (o := o) (by simpa using h) (fun j hj => by have := hf (j + 1) (by omega); simpa using this)
    rw [cutAt, if_neg hb, this]; simp
theorem first_cases (l : List UInt8) (c : UInt8) : (∀ j : Nat, l[j]? ≠ some c) ∨ ∃ o : Nat, l[o]? = some c ∧ ∀ j : Nat, j < o → l[j]? ≠ some c := by
  induction l with
  | nil => exact .inl (fun j => by simp)
  | cons b l ih =>
    by_cases hb : b = c
    · exact .inr ⟨0, by simp [hb], fun j hj => absurd hj (by omega)⟩
    · rcases ih with h | ⟨o, h1, h2⟩
      · refine .inl (fun j => ?_)
        cases j with
        | zero => simpa using hb
        | succ j => simpa using h j
      · refine .inr ⟨o + 1, by simpa using h1, fun j hj => ?_⟩
        cases j with
        | zero => simpa using hb
        | succ j => simpa using h2 j (by omega)
theorem all_no {l : List UInt8} {j : Nat} {c : UInt8} (h : l[j]? = some c) (hc : isD c = false) : l.all isD = false := by
  rw [List.all_eq_false]
  exact ⟨c, List.mem_of_getElem? h, by simp [hc]⟩
theorem canD_no {l : List UInt8} {j : Nat} {c : UInt8} (h : l[j]? = some c) (hc : isD c = false) : canD l = false := by
  unfold canD; rw [all_no h hc]; simp
theorem pE_good {l : List UInt8} (h : canD l = true) (hl : l.length ≤ 2000) : pE l = 0 := by unfold pE; rw [if_pos h, if_neg (by omega)]
theorem pE_bad {l : List UInt8} (h : canD l = false) : pE l = 3 := by unfold pE; rw [h]; simp
theorem dE_good {l : List UInt8} (h : someD l = true) (hl : l.length ≤ 2000) : dE l = 0 := by
  unfold someD at h
  simp only [Bool.and_eq_true, Bool.not_eq_true'] at h
  unfold dE; rw [h.1, h.2]; simp [show ¬ 2000 < l.length by omega]
theorem dE_bad {l : List UInt8} (h : someD l = false) : dE l = 3 := by
  unfold someD at h
  unfold dE
  cases h1 : l.isEmpty <;> cases h2 : l.all isD <;> simp [h1, h2] at h ⊢
theorem firstE_3 (a : Int) : firstE a 3 = 3 := by simp [firstE]
theorem firstE_l3 {b : Int} (h : b = 0 ∨ b = 2 ∨ b = 3) : firstE 3 b = 3 := by rcases h with rfl | rfl | rfl <;> simp [firstE]
theorem firstE_00 : firstE 0 0 = 0 := by simp [firstE]
theorem quo_bad {p q : List UInt8} (neg : Bool) (h : (canD p && canD q) = false) : quoE p q = 3 ∧ quoQ neg p q = 0 := by
  have h1 : firstE (pE p) (pE q) = 3 := by
    cases hq : canD q with
    | false => rw [pE_bad hq, firstE_3]
    | true => rw [hq, Bool.and_true] at h; rw [pE_bad h, firstE_l3 (pE_cases q)]
  have h2 : quoE p q = 3 := by unfold quoE; rw [h1]; simp
  exact ⟨h2, by unfold quoQ; rw [h2]; simp⟩
theorem quo_zero {p q : List UInt8} (neg : Bool) (hp : canD p = true) (hq : canD q = true) (lp : p.length ≤ 2000) (lq : q.length ≤ 2000) (h : dv q = 0) : quoE p q = 1 ∧ quoQ neg p q = 0 := by
  have h2 : quoE p q = 1 := by unfold quoE; rw [pE_good hp lp, pE_good hq lq, firstE_00, h]; simp
  exact ⟨h2, by unfold quoQ; rw [h2]; simp⟩
theorem quo_good {p q : List UInt8} (neg : Bool) (hp : canD p = true) (hq : canD q = true) (lp : p.length ≤ 2000) (lq : q.length ≤ 2000) (h : dv q ≠ 0) : quoE p q = 0 ∧ quoQ neg p q = sq neg (dv p) (dv q) := by
  have h2 : quoE p q = 0 := by unfold quoE; rw [pE_good hp lp, pE_good hq lq, firstE_00]; simp [h]
  exact ⟨h2, by unfold quoQ; rw [h2]; simp⟩
theorem dec_bad {a b : List UInt8} (neg : Bool) (h : (canD a && someD b) = false) : decE a b = 3 ∧ decQ neg a b = 0 := by
  have h2 : decE a b = 3 := by
    unfold decE
    cases hq : someD b with
    | false => rw [dE_bad hq, firstE_3]
    | true => rw [hq, Bool.and_true] at h; rw [pE_bad h, firstE_l3 (dE_cases b)]
  exact ⟨h2, by unfold decQ; rw [h2]; simp⟩
theorem dec_good {a b : List UInt8} (neg : Bool) (hp : canD a = true) (hq : someD b = true) (lp : a.length ≤ 2000) (lq : b.length ≤ 2000) : decE a b = 0 ∧ decQ neg a b = sq neg (dv (a ++ b)) (10 ^ b.length) := by
  have h2 : decE a b = 0 := by unfold decE; rw [pE_good hp lp, dE_good hq lq, firstE_00]
  exact ⟨h2, by unfold decQ; rw [h2, dv_append]; simp [Nat.add_comm, Nat.mul_comm]⟩
theorem canD_pos {l : List UInt8} (h : canD l = true) (hn : l ≠ [48]) : dv l ≠ 0 := by
  refine Nat.ne_of_gt (lv_pos (by omega) (canD_noz h hn) ?_)
  intro he
  have : l = [] := by cases l with | nil => rfl | cons c x => simp [dgs] at he
  subst this; simp [canD] at h

theorem pp_dot_bad {l a b : List UInt8} (hc : cutAt (bodyP l) 46 = some (a, b)) (o : Nat) (ho : (bodyP l)[o]? = some 46) (hof : ∀ j : Nat, j < o → (bodyP l)[j]? ≠ some 46) (h : (canD a && someD b) = false) : parseP l = (3, 0) := by
  unfold parseP
  rcases first_cases (bodyP l) 47 with hf | ⟨m, hm, hmf⟩
  · rw [cutAt_free hf, hc]
    have := dec_bad (negP l) h
    simp [this]
  · rw [cutAt_first hm hmf]
    have hne : m ≠ o := by rintro rfl; rw [hm] at ho; simp at ho
    have hb : (canD ((bodyP l).take m) && canD ((bodyP l).drop (m + 1))) = false := by
      rcases Nat.lt_or_gt_of_ne hne with hlt | hlt
      · have : ((bodyP l).drop (m + 1))[o - (m + 1)]? = some 46 := by rw [List.getElem?_drop, show m + 1 + (o - (m + 1)) = o by omega]; exact ho
        rw [canD_no this (by decide)]; simp
      · have : ((bodyP l).take m)[o]? = some 46 := by rw [List.getElem?_take, if_pos hlt]; exact ho
        rw [canD_no this (by decide)]; simp
    have := quo_bad (negP l) hb
    simp [this]
theorem pp_dot_good {l a b : List UInt8} (hc : cutAt (bodyP l) 46 = some (a, b)) (o : Nat) (ha : a = (bodyP l).take o) (hb : b = (bodyP l).drop (o + 1)) (ho : (bodyP l)[o]? = some 46) (hp : canD a = true) (hq : someD b = true) (lp : a.length ≤ 2000) (lq : b.length ≤ 2000) :
    parseP l = (0, sq (negP l) (dv (a ++ b)) (10 ^ b.length)) := by
  unfold parseP
  rcases first_cases (bodyP l) 47 with hf | ⟨m, hm, hmf⟩
  · rw [cutAt_free hf, hc]
    have := dec_good (negP l) hp hq lp lq
    simp [this]
  · exfalso
    have hne : m ≠ o := by rintro rfl; rw [hm] at ho; simp at ho
    rcases Nat.lt_or_gt_of_ne hne with hlt | hlt
    · have : a[m]? = some 47 := by rw [ha, List.getElem?_take, if_pos hlt]; exact hm
      rw [canD_no this (by decide)] at hp; cases hp
    · have : b[m - (o + 1)]? = some 47 := by rw [hb, List.getElem?_drop, show o + 1 + (m - (o + 1)) = m by omega]; exact hm
      unfold someD at hq
      rw [all_no this (by decide)] at hq; simp at hq
theorem pp_slash {l p q : List UInt8} (hc : cutAt (bodyP l) 47 = some (p, q)) : parseP l = (quoE p q, quoQ (negP l) p q) := by unfold parseP; rw [hc]
theorem pp_int {l : List UInt8} (h1 : cutAt (bodyP l) 47 = none) (h2 : cutAt (bodyP l) 46 = none) : parseP l = (quoE (bodyP l) [49], quoQ (negP l) (bodyP l) [49]) := by unfold parseP; rw [h1, h2]
theorem pair_eq {l : List UInt8} {a : Int} {b : Rat} (h1 : (parseP l).1 = a) (h2 : (parseP l).2 = b) : parseP l = (a, b) := by rw [← h1, ← h2]

theorem strip_sl {v : Value} {L : List Nat} (w : World) (h : Sl w v L) (nL : noz L) :
    Calls Tryz.prog 123 #[v] w fun e w' => e = .returned v ∧ w = w' := by
  cases h with
  | nil => exact strip_nil w
  | row g c _ hr =>
    refine (strip_row g c L w hr).mono ?_
    rintro e w' ⟨rfl, rfl⟩
    exact ⟨by rw [trim_of_noz L nL], rfl⟩
theorem reduced_sl (neg : Bool) {v : Value} {A : List Nat} (gb cb : Nat) (C : List Nat) (w : World) {n d : Nat} (hA : Sl w v A) (hC : Row 120 .u32 w gb cb C) (dA : dig 4294967296 A) (dC : dig 4294967296 C) (nA : noz A) (nC : noz C)
    (la : A.length ≤ 1099511627775) (lc : C.length ≤ 1099511627775) (hn : lv 4294967296 A = n) (hd : lv 4294967296 C = d) (zC : d ≠ 0) :
    Calls Tryz.prog 104 #[.bool neg, v, .slice (some ⟨gb, 0, none⟩) C.length cb] w fun e w' => ∃ x : Q3, e = .returned (.agg #[.bool x.neg, .string x.num, .string x.den]) ∧ Enc x (sq neg n d) ∧ Chg [] w w' := by
  cases hA with
  | nil =>
    obtain rfl : 0 = n := hn
    refine (reduced_nil neg _ w).mono ?_
    rintro e w' ⟨rfl, c⟩
    exact ⟨⟨false, ⟨#[]⟩, ⟨#[]⟩⟩, rfl, by rw [sq_zero]; exact Enc_zero, c⟩
  | row g c _ hr =>
    by_cases h0 : A = []
    · subst h0
      obtain rfl : 0 = n := hn
      refine (reduced_zero neg g c _ w).mono ?_
      rintro e w' ⟨rfl, c⟩
      exact ⟨⟨false, ⟨#[]⟩, ⟨#[]⟩⟩, rfl, by rw [sq_zero]; exact Enc_zero, c⟩
    · refine (reduced_any neg g c gb cb A C w hr hC dA dC nA nC la lc (Nat.ne_of_gt (lv_pos (by omega) nA h0)) (by rw [hd]; exact zC)).mono ?_
      rintro e w' ⟨x, rfl, hx, c⟩
      rw [hn, hd] at hx
      exact ⟨x, rfl, hx, c⟩

set_option maxRecDepth 20000 in
set_option maxHeartbeats 1000000 in
theorem rsome_any (s : ByteArray) (w : World) (hs : s.size ≤ 1099511627776) :
    Calls Tryz.prog 121 #[.string s] w fun e w' => e = .returned (.bool (someD s.data.toList)) ∧ w = w' := by
  obtain ⟨r, HR⟩ := name_it (someD s.data.toList)
  rw [HR.out]
  go_enter Tryz.func121, Tryz.ntmps121
  go_wp2_with fail
  go_loop [3] (fun iv => ∃ k : Nat, k ≤ s.size ∧ iv = .int .i64 k ∧ (s.data.toList.take k).all isD = true) (fun iv => s.size - (intOf iv).toNat)
  case atStart => exact ⟨0, Nat.zero_le _, rfl, by simp⟩
  case round =>
    obtain ⟨k, hk, rfl, hall⟩ := hrel
    have HA := Lib.hid hall
    clear hall
    by_cases hlt : k < s.size
    · have hbad : isD s[k] = false → r = false := by
        intro h
        rw [← HR.out]
        have := all_take_false s k hlt h
        simp [someD, this]
      have HBAD := Lib.hid hbad
      clear hbad
      by_cases c1 : s[k].toNat < 48
      · have hr : r = false := HBAD.out (by simp [isD]; omega)
        have c1' : (s[k].toNat : Int) < 48 := by omega
        subst hr
        go_wp2_with fail
        go_ret
        exact ⟨rfl, rfl⟩
      · by_cases c2 : 57 < s[k].toNat
        · have hr : r = false := HBAD.out (by simp [isD]; omega)
          have c1' : ¬ (s[k].toNat : Int) < 48 := by omega
          have c2' : 57 < (s[k].toNat : Int) := by omega
          subst hr
          go_wp2_with fail
          go_ret
          exact ⟨rfl, rfl⟩
        · have hst : Hid ((s.data.toList.take (k + 1)).all isD = true) := by
            show _ = _
            rw [take_step s k hlt, List.all_append, HA.out]
            simp [isD]; omega
          have c1' : ¬ (s[k].toNat : Int) < 48 := by omega
          have c2' : ¬ 57 < (s[k].toNat : Int) := by omega
          go_wp2_with fail
          go_round
          case rel => exact ⟨k + 1, by omega, by go_num, hst.out⟩
          case measure => simp [intOf]; omega
    · have hall : s.data.toList.all isD = true := by have := HA.out; rwa [List.take_of_length_le (by simp; omega)] at this
      have hr : Hid (r = !s.toList.isEmpty) := by
        show _ = _
        rw [← HR.out]; unfold someD; rw [hall, Bool.and_true, toList_data]
      clear hall
      obtain ⟨em, HEM⟩ := name_it s.toList.isEmpty
      rw [HEM.out] at hr
      cases em
      · have h1 : s.toList.isEmpty = false := HEM.out
        obtain rfl : r = true := hr.out
        have h2 : (!s.toList.isEmpty) = true := by rw [h1]; rfl
        go_wp2_with fail
        go_ret
        exact ⟨rfl, rfl⟩
      · have h1 : s.toList.isEmpty = true := HEM.out
        obtain rfl : r = false := hr.out
        have h2 : (!s.toList.isEmpty) = false := by rw [h1]; rfl
        go_wp2_with fail
        go_ret
        exact ⟨rfl, rfl⟩

set_option maxRecDepth 20000 in
set_option maxHeartbeats 1000000 in
theorem rcut_none (s : ByteArray) (c : Int) (b : UInt8) (hc : Hid ((b.toNat : Int) = c)) (w : World) (hs : s.size ≤ 1099511627776) (hf : Hid (∀ j : Nat, s.data.toList[j]? ≠ some b)) :
    Calls Tryz.prog 120 #[.string s, .int .u8 c] w fun e w' => e = .returned (.tuple #[.string s, .string ⟨#[]⟩, .bool false]) ∧ Chg [] w w' := by
  have hch : Chg [] w w := Chg.refl _ _
  go_enter Tryz.func120, Tryz.ntmps120
  go_wp2_with fail
  go_loopw [7] (fun iv wr => ∃ k : Nat, k ≤ s.size ∧ iv = .int .i64 k ∧ wr = w) (fun iv _ => s.size - (intOf iv).toNat)
  case atStart => exact ⟨0, Nat.zero_le _, rfl, (by trivial)⟩
  case round =>
    obtain ⟨k, hk, rfl, rfl⟩ := hrel
    by_cases hlt : k < s.size
    · have hne : ((s[k].toNat : Int) == c) = false := by
        rw [beq_eq_false_iff_ne, ← hc.out]
        intro he
        have h1 : s[k] = b := UInt8.toNat_inj.1 (by omega)
        exact hf.out k (by rw [byte_get s k hlt, h1])
      go_wp2_with fail
      go_roundw
      case rel => exact ⟨k + 1, by omega, by go_num, (by trivial)⟩
      case measure => simp [intOf]; omega
    · go_wp2_with fail
      go_ret3
      exact ⟨rfl, hch⟩

set_option maxRecDepth 20000 in
set_option maxHeartbeats 1000000 in
theorem rcut_some (s : ByteArray) (c : Int) (b : UInt8) (hc : Hid ((b.toNat : Int) = c)) (o : Nat) (w : World) (hs : s.size ≤ 1099511627776) (ho : Hid (s.data.toList[o]? = some b)) (hf : Hid (∀ j : Nat, j < o → s.data.toList[j]? ≠ some b)) :
    Calls Tryz.prog 120 #[.string s, .int .u8 c] w fun e w' => e = .returned (.tuple #[.string (s.extract 0 o), .string (s.extract (o + 1) s.size), .bool true]) ∧ Chg [] w w' := by
  have hch : Chg [] w w.drew := (Chg.refl _ _).drew
  have hos : o < s.size := by
    have := (List.getElem?_eq_some_iff.1 ho.out).1
    rw [size_len] at this; exact this
  have hso : Hid (s[o]'hos = b) := by
    have := ho.out
    rw [byte_get s o hos] at this
    exact Option.some.inj this
  go_enter Tryz.func120, Tryz.ntmps120
  go_wp2_with fail
  go_loopw [7] (fun iv wr => ∃ k : Nat, k ≤ o ∧ iv = .int .i64 k ∧ wr = w) (fun iv _ => s.size - (intOf iv).toNat)
  case atStart => exact ⟨0, Nat.zero_le _, rfl, (by trivial)⟩
  case round =>
    obtain ⟨k, hk, rfl, rfl⟩ := hrel
    by_cases hko : k = o
    · subst hko
      have heq : ((s[k].toNat : Int) == c) = true := by rw [beq_iff_eq, ← hc.out, hso.out]
      go_wp2_with fail
      go_region
      all_goals
        go_wp2_with fail
        go_ret3
        exact ⟨rfl, hch⟩
    · have hlt : k < s.size := by omega
      have hne : ((s[k].toNat : Int) == c) = false := by
        rw [beq_eq_false_iff_ne, ← hc.out]
        intro he
        have h1 : s[k] = b := UInt8.toNat_inj.1 (by omega)
        exact hf.out k (by omega) (by rw [byte_get s k hlt, h1])
      go_wp2_with fail
      go_roundw
      case rel => exact ⟨k + 1, by omega, by go_num, (by trivial)⟩
      case measure => simp [intOf]; omega

end Go.Proofs.YtogciehmdlfkfaaGreatDoor
