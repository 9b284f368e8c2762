/-
  Several parts put together: DM, DM2, DK, DT, DM3.
-/
import Derived.Test.YtogciehmdlfkfaaGreatDoorKC0
import Derived.Test.YtogciehmdlfkfaaGreatDoorV18
import Derived.Test.YtogciehmdlfkfaaGreatDoorV15
import Derived.Lib.SlTrimSet
import Derived.Lib.Atoi
import Derived.Lib.Split
import Derived.Lib.ItoaNum
import Derived.Lib.SplitLaws
import Derived.Lib.IndexBytes
import Derived.Test.YtogciehmdlfkfaaGreatDoorV21
/- Part DM. -/

namespace Go.Proofs.YtogciehmdlfkfaaGreatDoor
open Go.RowKit Nd

/-- Letters, digits, bytes of a name. -/
def ltC (c : Nat) : Bool := (decide (97 ≤ c) && decide (c ≤ 122)) || (decide (65 ≤ c) && decide (c ≤ 90))
def dgC (c : Nat) : Bool := decide (48 ≤ c) && decide (c ≤ 57)
def nmC (c : Nat) : Bool := ltC c || dgC c || decide (c = 45) || decide (c = 95)
def lettersL : List UInt8 := [65, 66, 67, 68, 69, 70, 71, 72, 73, 74, 75, 76, 77, 78, 79, 80, 81, 82, 83, 84, 85, 86, 87, 88, 89, 90, 97, 98, 99, 100, 101, 102, 103, 104, 105, 106, 107, 108, 109, 110, 111, 112, 113, 114, 115, 116, 117, 118, 119, 120, 121, 122]
def namesL : List UInt8 := [65, 66, 67, 68, 69, 70, 71, 72, 73, 74, 75, 76, 77, 78, 79, 80, 81, 82, 83, 84, 85, 86, 87, 88, 89, 90, 97, 98, 99, 100, 101, 102, 103, 104, 105, 106, 107, 108, 109, 110, 111, 112, 113, 114, 115, 116, 117, 118, 119, 120, 121, 122, 48, 49, 50, 51, 52, 53, 54, 55, 56, 57, 45, 95]
def capitalsL : List UInt8 := [65, 66, 67, 68, 69, 70, 71, 72, 73, 74, 75, 76, 77, 78, 79, 80, 81, 82, 83, 84, 85, 86, 87, 88, 89, 90]
def digitsL : List UInt8 := [48, 49, 50, 51, 52, 53, 54, 55, 56, 57]
theorem ofNat_self (b : UInt8) : b = UInt8.ofNat b.toNat := by simp
theorem lettersL_is (b : UInt8) : lettersL.contains b = ltC b.toNat := by
  have h : ∀ n, n < 256 → lettersL.contains (UInt8.ofNat n) = ltC n := by decide +kernel
  have := h b.toNat (UInt8.toNat_lt b)
  rwa [← ofNat_self] at this
theorem namesL_is (b : UInt8) : namesL.contains b = nmC b.toNat := by
  have h : ∀ n, n < 256 → namesL.contains (UInt8.ofNat n) = nmC n := by decide +kernel
  have := h b.toNat (UInt8.toNat_lt b)
  rwa [← ofNat_self] at this
theorem capitalsL_is (b : UInt8) : capitalsL.contains b = let1 b.toNat := by
  have h : ∀ n, n < 256 → capitalsL.contains (UInt8.ofNat n) = let1 n := by decide +kernel
  have := h b.toNat (UInt8.toNat_lt b)
  rwa [← ofNat_self] at this
theorem digitsL_is (b : UInt8) : digitsL.contains b = dgC b.toNat := by
  have h : ∀ n, n < 256 → digitsL.contains (UInt8.ofNat n) = dgC n := by decide +kernel
  have := h b.toNat (UInt8.toNat_lt b)
  rwa [← ofNat_self] at this
theorem dw_nil {α : Type} (p : α → Bool) : ∀ l : List α, l.dropWhile p = [] ↔ ∀ x ∈ l, p x = true
  | [] => by simp
  | x :: l => by
    rw [List.dropWhile_cons]
    cases h : p x with
    | true => rw [if_pos rfl, dw_nil p l]; simp [h]
    | false => simp [h]
/-- Whether all bytes of s are in a set. -/
def consB (s : ByteArray) (set : List UInt8) : Bool := (Lib.trimLeftS s.data.toList set).isEmpty
theorem all_byt (s : ByteArray) (q : UInt8 → Bool) (p : Nat → Bool) (hp : ∀ b : UInt8, q b = p b.toNat) : (∀ x ∈ s.data.toList, q x = true) ↔ ∀ j, j < s.size → p (byt s j) = true := by
  have hl : s.data.toList.length = s.size := by simp
  constructor
  · intro h j hj
    have := h (s.data.toList.getD j 0) (by rw [List.getD_eq_getElem?_getD, List.getElem?_eq_getElem (by omega), Option.getD_some]; exact List.getElem_mem _)
    rw [hp] at this; exact this
  · intro h x hx
    obtain ⟨j, hj, rfl⟩ := List.getElem_of_mem hx
    rw [hp]
    have := h j (by omega)
    unfold byt at this
    rwa [List.getD_eq_getElem?_getD, List.getElem?_eq_getElem hj, Option.getD_some] at this
theorem consB_iff (s : ByteArray) (set : List UInt8) (p : Nat → Bool) (hp : ∀ b : UInt8, set.contains b = p b.toNat) : consB s set = decide (∀ j, j < s.size → p (byt s j) = true) := by
  unfold consB Lib.trimLeftS
  rw [Bool.eq_iff_iff, List.isEmpty_iff, dw_nil, decide_eq_true_iff]
  exact all_byt s _ p hp
/-- Whether a string is a name. -/
def nameB (s : ByteArray) : Bool := decide (1 ≤ s.size) && (decide (s.size ≤ 32) && (ltC (byt s 0) && decide (∀ j, j < s.size → nmC (byt s j) = true)))
theorem codeB_cons (s : ByteArray) : codeB s = (decide (s.size = 3) && consB s capitalsL) := by
  rw [consB_iff s _ _ capitalsL_is]; rfl
theorem ext1 (s : ByteArray) (h : 1 ≤ s.size) : (s.extract 0 1).size = 1 ∧ byt (s.extract 0 1) 0 = byt s 0 := by
  have hl : s.data.toList.length = s.size := by simp
  constructor
  · rw [ByteArray.size_extract]; omega
  · unfold byt
    rw [ext_take]
    cases h2 : s.data.toList with
    | nil => rw [h2] at hl; simp at hl; omega
    | cons b r => rfl
theorem nameB_cons (s : ByteArray) : nameB s = (decide (1 ≤ s.size) && (decide (s.size ≤ 32) && (consB (s.extract 0 1) lettersL && consB s namesL))) := by
  unfold nameB
  by_cases h : 1 ≤ s.size
  · obtain ⟨e1, e2⟩ := ext1 s h
    rw [consB_iff s _ _ namesL_is, consB_iff _ _ _ lettersL_is]
    have : decide (∀ j, j < (s.extract 0 1).size → ltC (byt (s.extract 0 1) j) = true) = ltC (byt s 0) := by
      rw [Bool.eq_iff_iff, decide_eq_true_iff, ← e2]
      refine ⟨fun h => h 0 (by omega), fun h j hj => ?_⟩
      have hj0 : j = 0 := by omega
      rw [hj0]; exact h
    rw [this]
  · rw [decide_eq_false h]; rfl
/-- Whether a word has the form of a number of at most nine digits. -/
def numB (s : ByteArray) : Bool := canD s.data.toList && decide (s.size ≤ 9)
/-- The number of a word of this form. -/
def numV (s : ByteArray) : Nat := dv s.data.toList
end Go.Proofs.YtogciehmdlfkfaaGreatDoor

/- Part DM2. -/

namespace Go.Proofs.YtogciehmdlfkfaaGreatDoor
open Go.RowKit Nd

/-- The pieces between the bytes c. -/
def spl (c : UInt8) : List UInt8 → List (List UInt8)
  | [] => [[]]
  | x :: l => if x = c then [] :: spl c l else match spl c l with
    | [] => [[x]]
    | h :: t => (x :: h) :: t
theorem spl_ne (c : UInt8) : ∀ l, spl c l ≠ []
  | [] => by simp [spl]
  | x :: l => by
    unfold spl
    split
    · simp
    · split <;> simp
theorem spl_none (c : UInt8) : ∀ l : List UInt8, (∀ x ∈ l, x ≠ c) → spl c l = [l]
  | [], _ => rfl
  | x :: l, h => by
    rw [spl, if_neg (h x (by simp)), spl_none c l (fun y hy => h y (by simp [hy]))]
theorem spl_app (c : UInt8) : ∀ a b : List UInt8, (∀ x ∈ a, x ≠ c) → spl c (a ++ c :: b) = a :: spl c b
  | [], b, _ => by rw [List.nil_append, spl, if_pos rfl]
  | x :: a, b, h => by
    rw [List.cons_append, spl, if_neg (h x (by simp)), spl_app c a b (fun y hy => h y (by simp [hy]))]
theorem ib_none {c : UInt8} {l : List UInt8} (h : Lib.indexByte l c = -1) : ∀ x ∈ l, x ≠ c := by
  intro x hx he
  subst he
  have := Lib.indexByte_none h
  obtain ⟨j, hj, e⟩ := List.getElem_of_mem hx
  exact this j (by rw [List.getElem?_eq_getElem hj, e])
theorem ib_some {c : UInt8} {l : List UInt8} {o : Nat} (h : Lib.indexByte l c = o) : l = l.take o ++ c :: l.drop (o + 1) ∧ (∀ x ∈ l.take o, x ≠ c) ∧ o < l.length := by
  induction l generalizing o with
  | nil => simp [Lib.indexByte] at h
  | cons b l ih =>
    unfold Lib.indexByte at h
    by_cases hb : b = c
    · subst hb
      rw [if_pos (by simp)] at h
      obtain rfl : o = 0 := by omega
      simp
    · rw [if_neg (by simpa using hb)] at h
      split at h
      · omega
      · have hge := Lib.indexByte_ge l c
        rename_i h3
        have hne : Lib.indexByte l c ≠ -1 := by simpa using h3
        obtain ⟨k, rfl⟩ : ∃ k, o = k + 1 := ⟨o - 1, by omega⟩
        obtain ⟨h1, h2, h4⟩ := ih (o := k) (by omega)
        refine ⟨?_, ?_, by simpa using h4⟩
        · rw [List.take_succ_cons, List.drop_succ_cons, List.cons_append, ← h1]
        · intro x hx
          rw [List.take_succ_cons] at hx
          rcases List.mem_cons.1 hx with rfl | hx
          · exact hb
          · exact h2 x hx
/-- strings.Split at one byte. -/
theorem splitB_spl (c : UInt8) : ∀ (k : Nat) (s : ByteArray), Lib.countB s ⟨#[c]⟩ = k → (Lib.splitB ⟨#[c]⟩ 0 k s).map (·.data.toList) = spl c s.data.toList
  | 0, s, hk => by
    have h1 : s.data.toList.count c = 0 := by rw [← Lib.count_one]; exact hk
    rw [Lib.splitB_zero, spl_none c _ (fun x hx he => by subst he; exact absurd hx (List.count_eq_zero.1 h1))]; rfl
  | k + 1, s, hk => by
    rcases Lib.indexB_cases s ⟨#[c]⟩ with hix | ⟨i, hix, _⟩
    · rw [Lib.countB_miss s _ hix] at hk; omega
    · have hi : Lib.indexByte s.data.toList c = i := by rw [← Lib.index_one]; exact hix
      obtain ⟨h1, h2, h3⟩ := ib_some hi
      have hc := Lib.countB_hit s ⟨#[c]⟩ i (by simp [ByteArray.size]) hix
      rw [Lib.splitB_hit _ 0 k s i hix, List.map_cons, splitB_spl c k _ (by omega)]
      conv => rhs; rw [h1]
      rw [spl_app c _ _ h2]
      congr 1
      · simp
      · have : (s.extract (i + (⟨#[c]⟩ : ByteArray).size) s.size).data.toList = s.data.toList.drop (i + 1) := by
          rw [ext_drop]; rfl
        rw [this]
/-- The words of a line. -/
def wordsB (s : ByteArray) : List ByteArray := (spl 32 s.data.toList).map fun l => ⟨l.toArray⟩
theorem wordsB_split (s : ByteArray) : Lib.splitB ⟨#[32]⟩ 0 (Lib.countB s ⟨#[32]⟩) s = wordsB s := by
  unfold wordsB
  rw [← splitB_spl 32 _ s rfl, List.map_map]
  conv => lhs; rw [← List.map_id (Lib.splitB _ _ _ _)]
  rfl
theorem wordsB_len (s : ByteArray) : (wordsB s).length = Lib.countB s ⟨#[32]⟩ + 1 := by
  rw [← wordsB_split, Lib.splitB_all ⟨#[32]⟩ (by simp [ByteArray.size]) 0 _ s rfl]

/-- The lines of a text, each with a mark: whether it ends with a byte 10. -/
def lnE : List UInt8 → List (List UInt8 × Bool)
  | [] => []
  | x :: l => if x = 10 then ([], true) :: lnE l else match lnE l with
    | [] => [([x], false)]
    | (h, e) :: t => (x :: h, e) :: t
theorem lnE_none : ∀ l : List UInt8, l ≠ [] → (∀ x ∈ l, x ≠ 10) → lnE l = [(l, false)]
  | [], h, _ => absurd rfl h
  | [x], _, h => by rw [lnE, if_neg (h x (by simp))]; rfl
  | x :: y :: l, _, h => by
    rw [lnE, if_neg (h x (by simp)), lnE_none (y :: l) (by simp) (fun z hz => h z (by simp [hz]))]
theorem lnE_app : ∀ a b : List UInt8, (∀ x ∈ a, x ≠ 10) → lnE (a ++ 10 :: b) = (a, true) :: lnE b
  | [], b, _ => by rw [List.nil_append, lnE, if_pos rfl]
  | x :: a, b, h => by
    rw [List.cons_append, lnE, if_neg (h x (by simp)), lnE_app a b (fun y hy => h y (by simp [hy]))]
theorem lnE_nil_iff (l : List UInt8) : lnE l = [] ↔ l = [] := by
  cases l with
  | nil => simp [lnE]
  | cons x l =>
    simp only [reduceCtorEq, iff_false]
    unfold lnE
    split
    · simp
    · split <;> simp
/-- The number of lines, as it is counted by the ends of lines. -/
theorem lnE_count : ∀ l : List UInt8, ((lnE l).length : Int) = l.count 10 + (if l ≠ [] ∧ Lib.hasSuffix l [10] = false then 1 else 0)
  | [] => by simp [lnE]
  | [x] => by
    by_cases h : x = 10
    · subst h; decide
    · rw [lnE, if_neg h]
      have h2 : Lib.hasSuffix [x] [10] = false := by
        unfold Lib.hasSuffix
        simp [List.isSuffixOf, List.isPrefixOf]
        exact fun e => h e.symm
      rw [if_pos ⟨by simp, h2⟩, List.count_cons_of_ne (by simpa using h)]; simp [lnE]
  | x :: y :: l => by
    have ih := lnE_count (y :: l)
    have hs : Lib.hasSuffix (x :: y :: l) [10] = Lib.hasSuffix (y :: l) [10] := by
      have key : ∀ m : List UInt8, Lib.hasSuffix m [10] = decide (m.getLast? = some 10) := by
        intro m
        rw [Bool.eq_iff_iff, decide_eq_true_iff]
        unfold Lib.hasSuffix
        rw [List.isSuffixOf_iff_suffix]
        constructor
        · rintro ⟨t, rfl⟩; simp
        · intro h
          obtain ⟨t, ht⟩ := List.getLast?_eq_some_iff.1 h
          exact ⟨t, ht.symm⟩
      rw [key, key]
      simp
    rw [hs]
    by_cases h : x = 10
    · subst h
      rw [lnE, if_pos rfl, List.length_cons, List.count_cons_self]
      have h3 : ((y :: l : List UInt8) ≠ []) := by simp
      have h4 : ((10 :: y :: l : List UInt8) ≠ []) := by simp
      simp only [h3, h4, ne_eq, not_false_eq_true, true_and] at ih ⊢
      push_cast
      omega
    · have hne : lnE (y :: l) ≠ [] := by rw [ne_eq, lnE_nil_iff]; simp
      have hlen : (lnE (x :: y :: l)).length = (lnE (y :: l)).length := by
        rw [lnE, if_neg h]
        match hm : lnE (y :: l), hne with
        | (a, e) :: t, _ => simp
      rw [hlen, List.count_cons_of_ne (by simpa using h)]
      have h3 : ((y :: l : List UInt8) ≠ []) := by simp
      have h4 : ((x :: y :: l : List UInt8) ≠ []) := by simp
      simp only [h3, h4, ne_eq, not_false_eq_true, true_and] at ih ⊢
      exact ih

/-- strconv.Atoi of a canonical number. -/
theorem isD_iff (b : UInt8) : isD b = true ↔ 48 ≤ b.toNat ∧ b.toNat ≤ 57 := by simp [isD]
theorem decFrom_dv : ∀ (l : List UInt8) (acc : Nat), l.all isD = true → Lib.decFrom acc l = some (acc * 10 ^ l.length + dv l)
  | [], acc, _ => by simp [Lib.decFrom]
  | b :: l, acc, h => by
    simp only [List.all_cons, Bool.and_eq_true] at h
    have hb := (isD_iff b).1 h.1
    have h2 : Lib.digitVal b = some (b.toNat - 48) := by unfold Lib.digitVal; rw [if_pos hb]
    rw [Lib.decFrom, h2]
    simp only
    rw [decFrom_dv l _ h.2, dv_cons, List.length_cons, Nat.pow_succ, Nat.add_mul]
    congr 1
    rw [Nat.mul_assoc, Nat.mul_comm 10 (10 ^ l.length), Nat.mul_comm (b.toNat - 48)]
    omega
theorem cnd_all {l : List UInt8} (h : canD l = true) : l.all isD = true := by
  simp only [canD, Bool.and_eq_true] at h; exact h.1.2
theorem canD_ne {l : List UInt8} (h : canD l = true) : l ≠ [] := by
  simp only [canD, Bool.and_eq_true] at h
  have := h.1.1
  intro he; rw [he] at this; simp at this
theorem atoi_dv {l : List UInt8} (h : canD l = true) : Lib.atoi l = some (dv l : Int) := by
  have ha := cnd_all h
  have hn := canD_ne h
  match l, ha, hn with
  | b :: r, ha, _ =>
    have hb := (isD_iff b).1 (by simp only [List.all_cons, Bool.and_eq_true] at ha; exact ha.1)
    have h45 : (b == 45) = false := by
      rw [beq_eq_false_iff_ne]; rintro rfl; simp at hb
    have h43 : (b == 43) = false := by
      rw [beq_eq_false_iff_ne]; rintro rfl; simp at hb
    simp only [Lib.atoi, h45, h43, Bool.false_eq_true, if_false]
    unfold Lib.decNat
    rw [if_neg (by simp), decFrom_dv _ 0 ha]
    simp
theorem numV_lt {s : ByteArray} (h : numB s = true) : numV s < 1000000000 := by
  simp only [numB, Bool.and_eq_true, decide_eq_true_eq] at h
  have h1 := dv_lt _ (cnd_all h.1)
  have h2 : s.data.toList.length ≤ 9 := by simpa using h.2
  have h3 : (10:Nat) ^ s.data.toList.length ≤ 10 ^ 9 := Nat.pow_le_pow_right (by omega) h2
  unfold numV
  omega
/-- strconv.Itoa writes the same digits. -/
theorem decDigits_decL (n : Nat) : Lib.decDigits n = decL n := by
  have step : ∀ f n, n ≤ f → Lib.decDigits n = decL n := by
    intro f
    induction f with
    | zero =>
      intro n h
      obtain rfl : n = 0 := by omega
      rw [Lib.decDigits, dif_pos (by omega)]; decide
    | succ f ih =>
      intro n h
      unfold Lib.decDigits
      split
      · rename_i h10
        have : ∀ m, m < 10 → [UInt8.ofNat (48 + m)] = decL m := by decide
        simpa using this n h10
      · rename_i h10
        have h1 := ih (n / 10) (by omega)
        have hne : ¬ n = 0 := by omega
        have hne2 : ¬ n / 10 = 0 := by omega
        refine Dec_unique (n := n) ?_ (Dec_decL n)
        rw [h1]
        obtain ⟨hc, hv⟩ := Dec_decL (n / 10)
        have e : (UInt8.ofNat (48 + n % 10)).toNat = 48 + n % 10 := UInt8.toNat_ofNat_of_lt' (by have := Nat.mod_lt n (show 0 < 10 by omega); simp [UInt8.size]; omega)
        refine ⟨?_, by rw [dv_snoc, hv, e]; omega⟩
        have ha := cnd_all hc
        have hn0 := canD_ne hc
        unfold canD at hc ⊢
        rw [List.all_append, ha]
        have h48 : (decL (n / 10)).head? ≠ some 48 := by
          unfold decL
          rw [if_neg hne2]
          exact (decAux_is _ _ (Nat.le_refl _)).2.2
        have hd : isD (UInt8.ofNat (48 + n % 10)) = true := by rw [isD_iff, e]; have := Nat.mod_lt n (show 0 < 10 by omega); omega
        generalize UInt8.ofNat (48 + n % 10) = d at *
        cases hl : decL (n / 10) with
        | nil => exact absurd hl hn0
        | cons x t =>
          rw [hl] at h48
          simp only [List.head?_cons] at h48
          simp [hd, h48]
  exact step n n (Nat.le_refl n)
theorem itoa_decL (n : Nat) : Lib.itoa (n : Int) = decL n := by
  unfold Lib.itoa
  rw [if_neg (by omega), Int.toNat_natCast, decDigits_decL]
end Go.Proofs.YtogciehmdlfkfaaGreatDoor

/- Part DK. -/

namespace Go.Proofs.YtogciehmdlfkfaaGreatDoor
open Go.RowKit Nd

structure Pf where
  id : ByteArray
  es : Int
  cr : Int
  cd : ByteArray
  am : Q3
  inc : Int
  rk : Int
  rt : Q3
  rf : Int
  sec : Int
def pf0 : Pf := ⟨⟨#[]⟩, 0, 0, ⟨#[]⟩, q0, 0, 0, q0, 0, 0⟩
abbrev Pf.val (s : Pf) : Value := .agg #[.string s.id, .int .i64 s.es, .int .i64 s.cr, .string s.cd, .bool s.am.neg, .string s.am.num, .string s.am.den, .int .i64 s.inc, .int .i64 s.rk, .bool s.rt.neg, .string s.rt.num, .string s.rt.den, .int .i64 s.rf, .int .i64 s.sec]

structure BlkPf (w : World) (g : Nat) (v0 v1 v2 v3 v4 v5 v6 v7 v8 v9 v10 v11 v12 v13 : Value) : Prop where
  c0 : w.cell? ⟨g, 0, none⟩ = some v0
  c1 : w.cell? ⟨g, 1, none⟩ = some v1
  c2 : w.cell? ⟨g, 2, none⟩ = some v2
  c3 : w.cell? ⟨g, 3, none⟩ = some v3
  c4 : w.cell? ⟨g, 4, none⟩ = some v4
  c5 : w.cell? ⟨g, 5, none⟩ = some v5
  c6 : w.cell? ⟨g, 6, none⟩ = some v6
  c7 : w.cell? ⟨g, 7, none⟩ = some v7
  c8 : w.cell? ⟨g, 8, none⟩ = some v8
  c9 : w.cell? ⟨g, 9, none⟩ = some v9
  c10 : w.cell? ⟨g, 10, none⟩ = some v10
  c11 : w.cell? ⟨g, 11, none⟩ = some v11
  c12 : w.cell? ⟨g, 12, none⟩ = some v12
  c13 : w.cell? ⟨g, 13, none⟩ = some v13
  f0 : w.frozen? ⟨g, 0, none⟩ = false
  f1 : w.frozen? ⟨g, 1, none⟩ = false
  f2 : w.frozen? ⟨g, 2, none⟩ = false
  f3 : w.frozen? ⟨g, 3, none⟩ = false
  f4 : w.frozen? ⟨g, 4, none⟩ = false
  f5 : w.frozen? ⟨g, 5, none⟩ = false
  f6 : w.frozen? ⟨g, 6, none⟩ = false
  f7 : w.frozen? ⟨g, 7, none⟩ = false
  f8 : w.frozen? ⟨g, 8, none⟩ = false
  f9 : w.frozen? ⟨g, 9, none⟩ = false
  f10 : w.frozen? ⟨g, 10, none⟩ = false
  f11 : w.frozen? ⟨g, 11, none⟩ = false
  f12 : w.frozen? ⟨g, 12, none⟩ = false
  f13 : w.frozen? ⟨g, 13, none⟩ = false
  lt : g < w.heap.size
theorem BlkPf.alloc (w : World) (v0 v1 v2 v3 v4 v5 v6 v7 v8 v9 v10 v11 v12 v13 : Value) (e : TypeId) : BlkPf (w.alloc (.cells #[v0, v1, v2, v3, v4, v5, v6, v7, v8, v9, v10, v11, v12, v13] e)) w.heap.size v0 v1 v2 v3 v4 v5 v6 v7 v8 v9 v10 v11 v12 v13 := by
  constructor <;> simp
theorem BlkPf.keep {gs : List Nat} {w w' : World} {g : Nat} {v0 v1 v2 v3 v4 v5 v6 v7 v8 v9 v10 v11 v12 v13 : Value} (h : BlkPf w g v0 v1 v2 v3 v4 v5 v6 v7 v8 v9 v10 v11 v12 v13) (hc : Chg gs w w') (hg : g ∉ gs) : BlkPf w' g v0 v1 v2 v3 v4 v5 v6 v7 v8 v9 v10 v11 v12 v13 := by
  have hl := h.lt
  refine ⟨(hc.cell hl hg).trans h.c0, (hc.cell hl hg).trans h.c1, (hc.cell hl hg).trans h.c2, (hc.cell hl hg).trans h.c3, (hc.cell hl hg).trans h.c4, (hc.cell hl hg).trans h.c5, (hc.cell hl hg).trans h.c6, (hc.cell hl hg).trans h.c7, (hc.cell hl hg).trans h.c8, (hc.cell hl hg).trans h.c9, (hc.cell hl hg).trans h.c10, (hc.cell hl hg).trans h.c11, (hc.cell hl hg).trans h.c12, (hc.cell hl hg).trans h.c13, ?_, ?_, ?_, ?_, ?_, ?_, ?_, ?_, ?_, ?_, ?_, ?_, ?_, ?_, Nat.lt_of_lt_of_le hl hc.size⟩
  · exact (World.frozen?_of_block (hc.block _ hl hg)).trans h.f0
  · exact (World.frozen?_of_block (hc.block _ hl hg)).trans h.f1
  · exact (World.frozen?_of_block (hc.block _ hl hg)).trans h.f2
  · exact (World.frozen?_of_block (hc.block _ hl hg)).trans h.f3
  · exact (World.frozen?_of_block (hc.block _ hl hg)).trans h.f4
  · exact (World.frozen?_of_block (hc.block _ hl hg)).trans h.f5
  · exact (World.frozen?_of_block (hc.block _ hl hg)).trans h.f6
  · exact (World.frozen?_of_block (hc.block _ hl hg)).trans h.f7
  · exact (World.frozen?_of_block (hc.block _ hl hg)).trans h.f8
  · exact (World.frozen?_of_block (hc.block _ hl hg)).trans h.f9
  · exact (World.frozen?_of_block (hc.block _ hl hg)).trans h.f10
  · exact (World.frozen?_of_block (hc.block _ hl hg)).trans h.f11
  · exact (World.frozen?_of_block (hc.block _ hl hg)).trans h.f12
  · exact (World.frozen?_of_block (hc.block _ hl hg)).trans h.f13
theorem BlkPf.keep0 {w w' : World} {g : Nat} {v0 v1 v2 v3 v4 v5 v6 v7 v8 v9 v10 v11 v12 v13 : Value} (h : BlkPf w g v0 v1 v2 v3 v4 v5 v6 v7 v8 v9 v10 v11 v12 v13) (hc : Chg [] w w') : BlkPf w' g v0 v1 v2 v3 v4 v5 v6 v7 v8 v9 v10 v11 v12 v13 := h.keep hc (by simp)

theorem Chg.stPf {gs : List Nat} {a w : World} (h : Chg gs a w) {g : Nat} (hg : g ∈ gs ∨ a.heap.size ≤ g) (v0 v1 v2 v3 v4 v5 v6 v7 v8 v9 v10 v11 v12 v13 : Value) : Chg gs a ((((((((((((((w.setCell ⟨g, 0, none⟩ v0).setCell ⟨g, 1, none⟩ v1).setCell ⟨g, 2, none⟩ v2).setCell ⟨g, 3, none⟩ v3).setCell ⟨g, 4, none⟩ v4).setCell ⟨g, 5, none⟩ v5).setCell ⟨g, 6, none⟩ v6).setCell ⟨g, 7, none⟩ v7).setCell ⟨g, 8, none⟩ v8).setCell ⟨g, 9, none⟩ v9).setCell ⟨g, 10, none⟩ v10).setCell ⟨g, 11, none⟩ v11).setCell ⟨g, 12, none⟩ v12).setCell ⟨g, 13, none⟩ v13) :=
  (((((((((((((h.setCell hg _).setCell hg _).setCell hg _).setCell hg _).setCell hg _).setCell hg _).setCell hg _).setCell hg _).setCell hg _).setCell hg _).setCell hg _).setCell hg _).setCell hg _).setCell hg _
theorem BlkPf.sto {w : World} {g : Nat} {a0 a1 a2 a3 a4 a5 a6 a7 a8 a9 a10 a11 a12 a13 : Value} (h : BlkPf w g a0 a1 a2 a3 a4 a5 a6 a7 a8 a9 a10 a11 a12 a13) (v0 v1 v2 v3 v4 v5 v6 v7 v8 v9 v10 v11 v12 v13 : Value) : BlkPf ((((((((((((((w.setCell ⟨g, 0, none⟩ v0).setCell ⟨g, 1, none⟩ v1).setCell ⟨g, 2, none⟩ v2).setCell ⟨g, 3, none⟩ v3).setCell ⟨g, 4, none⟩ v4).setCell ⟨g, 5, none⟩ v5).setCell ⟨g, 6, none⟩ v6).setCell ⟨g, 7, none⟩ v7).setCell ⟨g, 8, none⟩ v8).setCell ⟨g, 9, none⟩ v9).setCell ⟨g, 10, none⟩ v10).setCell ⟨g, 11, none⟩ v11).setCell ⟨g, 12, none⟩ v12).setCell ⟨g, 13, none⟩ v13) g v0 v1 v2 v3 v4 v5 v6 v7 v8 v9 v10 v11 v12 v13 := by
  obtain ⟨c0, c1, c2, c3, c4, c5, c6, c7, c8, c9, c10, c11, c12, c13, f0, f1, f2, f3, f4, f5, f6, f7, f8, f9, f10, f11, f12, f13, l⟩ := h
  refine ⟨?_, ?_, ?_, ?_, ?_, ?_, ?_, ?_, ?_, ?_, ?_, ?_, ?_, ?_, ?_, ?_, ?_, ?_, ?_, ?_, ?_, ?_, ?_, ?_, ?_, ?_, ?_, ?_, ?_⟩
  · simp [go_sem, c0]
  · simp [go_sem, c1]
  · simp [go_sem, c2]
  · simp [go_sem, c3]
  · simp [go_sem, c4]
  · simp [go_sem, c5]
  · simp [go_sem, c6]
  · simp [go_sem, c7]
  · simp [go_sem, c8]
  · simp [go_sem, c9]
  · simp [go_sem, c10]
  · simp [go_sem, c11]
  · simp [go_sem, c12]
  · simp [go_sem, c13]
  · rw [World.frozen?_setCell, World.frozen?_setCell, World.frozen?_setCell, World.frozen?_setCell, World.frozen?_setCell, World.frozen?_setCell, World.frozen?_setCell, World.frozen?_setCell, World.frozen?_setCell, World.frozen?_setCell, World.frozen?_setCell, World.frozen?_setCell, World.frozen?_setCell, World.frozen?_setCell]; exact f0
  · rw [World.frozen?_setCell, World.frozen?_setCell, World.frozen?_setCell, World.frozen?_setCell, World.frozen?_setCell, World.frozen?_setCell, World.frozen?_setCell, World.frozen?_setCell, World.frozen?_setCell, World.frozen?_setCell, World.frozen?_setCell, World.frozen?_setCell, World.frozen?_setCell, World.frozen?_setCell]; exact f1
  · rw [World.frozen?_setCell, World.frozen?_setCell, World.frozen?_setCell, World.frozen?_setCell, World.frozen?_setCell, World.frozen?_setCell, World.frozen?_setCell, World.frozen?_setCell, World.frozen?_setCell, World.frozen?_setCell, World.frozen?_setCell, World.frozen?_setCell, World.frozen?_setCell, World.frozen?_setCell]; exact f2
  · rw [World.frozen?_setCell, World.frozen?_setCell, World.frozen?_setCell, World.frozen?_setCell, World.frozen?_setCell, World.frozen?_setCell, World.frozen?_setCell, World.frozen?_setCell, World.frozen?_setCell, World.frozen?_setCell, World.frozen?_setCell, World.frozen?_setCell, World.frozen?_setCell, World.frozen?_setCell]; exact f3
  · rw [World.frozen?_setCell, World.frozen?_setCell, World.frozen?_setCell, World.frozen?_setCell, World.frozen?_setCell, World.frozen?_setCell, World.frozen?_setCell, World.frozen?_setCell, World.frozen?_setCell, World.frozen?_setCell, World.frozen?_setCell, World.frozen?_setCell, World.frozen?_setCell, World.frozen?_setCell]; exact f4
  · rw [World.frozen?_setCell, World.frozen?_setCell, World.frozen?_setCell, World.frozen?_setCell, World.frozen?_setCell, World.frozen?_setCell, World.frozen?_setCell, World.frozen?_setCell, World.frozen?_setCell, World.frozen?_setCell, World.frozen?_setCell, World.frozen?_setCell, World.frozen?_setCell, World.frozen?_setCell]; exact f5
  · rw [World.frozen?_setCell, World.frozen?_setCell, World.frozen?_setCell, World.frozen?_setCell, World.frozen?_setCell, World.frozen?_setCell, World.frozen?_setCell, World.frozen?_setCell, World.frozen?_setCell, World.frozen?_setCell, World.frozen?_setCell, World.frozen?_setCell, World.frozen?_setCell, World.frozen?_setCell]; exact f6
  · rw [World.frozen?_setCell, World.frozen?_setCell, World.frozen?_setCell, World.frozen?_setCell, World.frozen?_setCell, World.frozen?_setCell, World.frozen?_setCell, World.frozen?_setCell, World.frozen?_setCell, World.frozen?_setCell, World.frozen?_setCell, World.frozen?_setCell, World.frozen?_setCell, World.frozen?_setCell]; exact f7
  · rw [World.frozen?_setCell, World.frozen?_setCell, World.frozen?_setCell, World.frozen?_setCell, World.frozen?_setCell, World.frozen?_setCell, World.frozen?_setCell, World.frozen?_setCell, World.frozen?_setCell, World.frozen?_setCell, World.frozen?_setCell, World.frozen?_setCell, World.frozen?_setCell, World.frozen?_setCell]; exact f8
  · rw [World.frozen?_setCell, World.frozen?_setCell, World.frozen?_setCell, World.frozen?_setCell, World.frozen?_setCell, World.frozen?_setCell, World.frozen?_setCell, World.frozen?_setCell, World.frozen?_setCell, World.frozen?_setCell, World.frozen?_setCell, World.frozen?_setCell, World.frozen?_setCell, World.frozen?_setCell]; exact f9
  · rw [World.frozen?_setCell, World.frozen?_setCell, World.frozen?_setCell, World.frozen?_setCell, World.frozen?_setCell, World.frozen?_setCell, World.frozen?_setCell, World.frozen?_setCell, World.frozen?_setCell, World.frozen?_setCell, World.frozen?_setCell, World.frozen?_setCell, World.frozen?_setCell, World.frozen?_setCell]; exact f10
  · rw [World.frozen?_setCell, World.frozen?_setCell, World.frozen?_setCell, World.frozen?_setCell, World.frozen?_setCell, World.frozen?_setCell, World.frozen?_setCell, World.frozen?_setCell, World.frozen?_setCell, World.frozen?_setCell, World.frozen?_setCell, World.frozen?_setCell, World.frozen?_setCell, World.frozen?_setCell]; exact f11
  · rw [World.frozen?_setCell, World.frozen?_setCell, World.frozen?_setCell, World.frozen?_setCell, World.frozen?_setCell, World.frozen?_setCell, World.frozen?_setCell, World.frozen?_setCell, World.frozen?_setCell, World.frozen?_setCell, World.frozen?_setCell, World.frozen?_setCell, World.frozen?_setCell, World.frozen?_setCell]; exact f12
  · rw [World.frozen?_setCell, World.frozen?_setCell, World.frozen?_setCell, World.frozen?_setCell, World.frozen?_setCell, World.frozen?_setCell, World.frozen?_setCell, World.frozen?_setCell, World.frozen?_setCell, World.frozen?_setCell, World.frozen?_setCell, World.frozen?_setCell, World.frozen?_setCell, World.frozen?_setCell]; exact f13
  · simpa using l

structure CPf (w : World) (g o : Nat) (s : Pf) : Prop where
  c0 : w.cell? ⟨g, o, none⟩ = some (.string s.id)
  c1 : w.cell? ⟨g, o + 1, none⟩ = some (.int .i64 s.es)
  c2 : w.cell? ⟨g, o + 2, none⟩ = some (.int .i64 s.cr)
  c3 : w.cell? ⟨g, o + 3, none⟩ = some (.string s.cd)
  c4 : w.cell? ⟨g, o + 4, none⟩ = some (.bool s.am.neg)
  c5 : w.cell? ⟨g, o + 5, none⟩ = some (.string s.am.num)
  c6 : w.cell? ⟨g, o + 6, none⟩ = some (.string s.am.den)
  c7 : w.cell? ⟨g, o + 7, none⟩ = some (.int .i64 s.inc)
  c8 : w.cell? ⟨g, o + 8, none⟩ = some (.int .i64 s.rk)
  c9 : w.cell? ⟨g, o + 9, none⟩ = some (.bool s.rt.neg)
  c10 : w.cell? ⟨g, o + 10, none⟩ = some (.string s.rt.num)
  c11 : w.cell? ⟨g, o + 11, none⟩ = some (.string s.rt.den)
  c12 : w.cell? ⟨g, o + 12, none⟩ = some (.int .i64 s.rf)
  c13 : w.cell? ⟨g, o + 13, none⟩ = some (.int .i64 s.sec)
  l : g < w.heap.size
theorem CPf.keep {gs : List Nat} {w w' : World} {g o : Nat} {s : Pf} (h : CPf w g o s) (hc : Chg gs w w') (hg : g ∉ gs) : CPf w' g o s :=
  ⟨(hc.cell (p := ⟨g, _, none⟩) h.l hg).trans h.c0, (hc.cell (p := ⟨g, _, none⟩) h.l hg).trans h.c1, (hc.cell (p := ⟨g, _, none⟩) h.l hg).trans h.c2, (hc.cell (p := ⟨g, _, none⟩) h.l hg).trans h.c3, (hc.cell (p := ⟨g, _, none⟩) h.l hg).trans h.c4, (hc.cell (p := ⟨g, _, none⟩) h.l hg).trans h.c5, (hc.cell (p := ⟨g, _, none⟩) h.l hg).trans h.c6, (hc.cell (p := ⟨g, _, none⟩) h.l hg).trans h.c7, (hc.cell (p := ⟨g, _, none⟩) h.l hg).trans h.c8, (hc.cell (p := ⟨g, _, none⟩) h.l hg).trans h.c9, (hc.cell (p := ⟨g, _, none⟩) h.l hg).trans h.c10, (hc.cell (p := ⟨g, _, none⟩) h.l hg).trans h.c11, (hc.cell (p := ⟨g, _, none⟩) h.l hg).trans h.c12, (hc.cell (p := ⟨g, _, none⟩) h.l hg).trans h.c13, Nat.lt_of_lt_of_le h.l hc.size⟩
theorem CPf.keep0 {w w' : World} {g o : Nat} {s : Pf} (h : CPf w g o s) (hc : Chg [] w w') : CPf w' g o s := h.keep hc (by simp)
def SPf (w : World) (A : Option Addr) (xs : List Pf) : Prop :=
  0 < xs.length → ∃ g o, A = some ⟨g, o, none⟩ ∧ g < w.heap.size ∧ ∀ j, j < xs.length → CPf w g (o + j * 14) (xs.getD j pf0)
theorem SPf.nil (w : World) (A : Option Addr) : SPf w A [] := fun h => absurd h (by simp)
theorem SPf.keep {gs : List Nat} {w w' : World} {A : Option Addr} {xs : List Pf} (h : SPf w A xs) (hc : Chg gs w w') (hg : Off gs A) : SPf w' A xs := by
  intro hl
  obtain ⟨g, o, rfl, hlt, hcell⟩ := h hl
  exact ⟨g, o, rfl, Nat.lt_of_lt_of_le hlt hc.size, fun j hj => (hcell j hj).keep hc (hg _ rfl)⟩
theorem SPf.keep0 {w w' : World} {A : Option Addr} {xs : List Pf} (h : SPf w A xs) (hc : Chg [] w w') : SPf w' A xs := h.keep hc (Off.nil A)
theorem SPf.keepL {gs : List Nat} {w w' : World} {A : Option Addr} {xs : List Pf} {N : Nat} (h : SPf w A xs) (hlow : 0 < xs.length → ∃ g o, A = some ⟨g, o, none⟩ ∧ g < N) (hc : Chg gs w w') (hg : ∀ x ∈ gs, N ≤ x) : SPf w' A xs := by
  intro hl
  obtain ⟨g, o, e, hlt⟩ := hlow hl
  exact h.keep hc (by intro a ha hm; rw [e] at ha; cases ha; have := hg _ hm; dsimp only at this; omega) hl
theorem SPf.form {w : World} {A : Option Addr} {xs : List Pf} (h : SPf w A xs) (hl : 0 < xs.length) : ∃ g o, A = some ⟨g, o, none⟩ ∧ g < w.heap.size := by
  obtain ⟨g, o, e, hlt, _⟩ := h hl
  exact ⟨g, o, e, hlt⟩
theorem SPf.at_ {w : World} {g o : Nat} {xs : List Pf} (h : SPf w (some ⟨g, o, none⟩) xs) {j : Nat} (hj : j < xs.length) : CPf w g (o + j * 14) (xs.getD j pf0) := by
  obtain ⟨g', o', he, hlt, hcell⟩ := h (by omega)
  simp only [Option.some.injEq, Addr.mk.injEq, and_true] at he
  obtain ⟨rfl, rfl⟩ := he
  exact hcell j hj
theorem SPf.st3 {w : World} {g o k : Nat} {xs : List Pf} (h : SPf w (some ⟨g, o, none⟩) xs) (hk : g ≠ k) (x y z : Value) : SPf (((w.setCell ⟨k, 0, none⟩ x).setCell ⟨k, 1, none⟩ y).setCell ⟨k, 2, none⟩ z) (some ⟨g, o, none⟩) xs :=
  h.keep ((Chg.refl [k] w).store3 (.inl (by simp)) x y z) (by intro a ha; cases ha; simpa using hk)
theorem SPf.take {w : World} {A : Option Addr} {xs : List Pf} (h : SPf w A xs) (k : Nat) : SPf w A (xs.take k) := by
  intro hl
  obtain ⟨g, o, e, hlt, hc⟩ := h (by rw [List.length_take] at hl; omega)
  refine ⟨g, o, e, hlt, fun j hj => ?_⟩
  rw [List.length_take] at hj
  have hg : (xs.take k).getD j pf0 = xs.getD j pf0 := by
    rw [List.getD_eq_getElem?_getD, List.getD_eq_getElem?_getD, List.getElem?_take_of_lt (by omega)]
  rw [hg]; exact hc j (by omega)
theorem memPf {l : List Pf} {j : Nat} (h : j < l.length) : l.getD j pf0 ∈ l := by
  rw [List.getD_eq_getElem?_getD, List.getElem?_eq_getElem h, Option.getD_some]; exact List.getElem_mem _
theorem take_snocPf (xs : List Pf) (k : Nat) (h : k < xs.length) : xs.take (k + 1) = xs.take k ++ [xs.getD k pf0] := by
  rw [List.take_add_one, List.getD_eq_getElem?_getD, List.getElem?_eq_getElem h]; rfl
theorem snoc_getPf (xs : List Pf) (s : Pf) (j : Nat) : (xs ++ [s]).getD j pf0 = if j < xs.length then xs.getD j pf0 else if j = xs.length then s else pf0 := by
  rw [List.getD_eq_getElem?_getD, List.getD_eq_getElem?_getD]
  split
  · rename_i h; rw [List.getElem?_append_left h]
  · rename_i h
    split
    · rename_i h2; subst h2; rw [List.getElem?_append_right (Nat.le_refl _), Nat.sub_self]; rfl
    · rename_i h2
      rw [List.getElem?_eq_none (by simp; omega)]; rfl

/-- The cells of elements one behind the other. -/
def csPf : List Pf → List Value
  | [] => []
  | x :: xs => .string x.id :: .int .i64 x.es :: .int .i64 x.cr :: .string x.cd :: .bool x.am.neg :: .string x.am.num :: .string x.am.den :: .int .i64 x.inc :: .int .i64 x.rk :: .bool x.rt.neg :: .string x.rt.num :: .string x.rt.den :: .int .i64 x.rf :: .int .i64 x.sec :: csPf xs
theorem csPf_length : ∀ xs : List Pf, (csPf xs).length = xs.length * 14
  | [] => rfl
  | x :: xs => by simp only [csPf, List.length_cons, csPf_length xs]; omega
theorem csPf_append : ∀ xs ys : List Pf, csPf (xs ++ ys) = csPf xs ++ csPf ys
  | [], _ => rfl
  | x :: xs, ys => by simp only [List.cons_append, csPf, csPf_append xs ys]
theorem csPf_one : ∀ (xs : List Pf), ∀ u ∈ csPf xs, u.oneCell' = true
  | [], u, h => by cases h
  | x :: xs, u, h => by
    simp only [csPf, List.mem_cons] at h
    rcases h with rfl | rfl | rfl | rfl | rfl | rfl | rfl | rfl | rfl | rfl | rfl | rfl | rfl | rfl | h
    · rfl
    · rfl
    · rfl
    · rfl
    · rfl
    · rfl
    · rfl
    · rfl
    · rfl
    · rfl
    · rfl
    · rfl
    · rfl
    · rfl
    · exact csPf_one xs u h
theorem csPf_get : ∀ (xs : List Pf) (j : Nat), j < xs.length → (csPf xs)[j * 14]? = some (.string (xs.getD j pf0).id) ∧ (csPf xs)[j * 14 + 1]? = some (.int .i64 (xs.getD j pf0).es) ∧ (csPf xs)[j * 14 + 2]? = some (.int .i64 (xs.getD j pf0).cr) ∧ (csPf xs)[j * 14 + 3]? = some (.string (xs.getD j pf0).cd) ∧ (csPf xs)[j * 14 + 4]? = some (.bool (xs.getD j pf0).am.neg) ∧ (csPf xs)[j * 14 + 5]? = some (.string (xs.getD j pf0).am.num) ∧ (csPf xs)[j * 14 + 6]? = some (.string (xs.getD j pf0).am.den) ∧ (csPf xs)[j * 14 + 7]? = some (.int .i64 (xs.getD j pf0).inc) ∧ (csPf xs)[j * 14 + 8]? = some (.int .i64 (xs.getD j pf0).rk) ∧ (csPf xs)[j * 14 + 9]? = some (.bool (xs.getD j pf0).rt.neg) ∧ (csPf xs)[j * 14 + 10]? = some (.string (xs.getD j pf0).rt.num) ∧ (csPf xs)[j * 14 + 11]? = some (.string (xs.getD j pf0).rt.den) ∧ (csPf xs)[j * 14 + 12]? = some (.int .i64 (xs.getD j pf0).rf) ∧ (csPf xs)[j * 14 + 13]? = some (.int .i64 (xs.getD j pf0).sec)
  | [], j, h => absurd h (by simp)
  | x :: xs, 0, _ => by simp [csPf]
  | x :: xs, j + 1, h => by
    have := csPf_get xs j (by simpa using h)
    rw [show (j + 1) * 14 = j * 14 + 14 by omega]
    simp only [csPf, List.getElem?_cons_succ, List.getD_cons_succ, show j * 14 + 14 + 1 = j * 14 + 1 + 14 by omega, show j * 14 + 14 + 2 = j * 14 + 2 + 14 by omega, show j * 14 + 14 + 3 = j * 14 + 3 + 14 by omega, show j * 14 + 14 + 4 = j * 14 + 4 + 14 by omega, show j * 14 + 14 + 5 = j * 14 + 5 + 14 by omega, show j * 14 + 14 + 6 = j * 14 + 6 + 14 by omega, show j * 14 + 14 + 7 = j * 14 + 7 + 14 by omega, show j * 14 + 14 + 8 = j * 14 + 8 + 14 by omega, show j * 14 + 14 + 9 = j * 14 + 9 + 14 by omega, show j * 14 + 14 + 10 = j * 14 + 10 + 14 by omega, show j * 14 + 14 + 11 = j * 14 + 11 + 14 by omega, show j * 14 + 14 + 12 = j * 14 + 12 + 14 by omega, show j * 14 + 14 + 13 = j * 14 + 13 + 14 by omega]
    exact this
theorem csPf_split {xs : List Pf} {i : Nat} {u : Value} (h : (csPf xs)[i]? = some u) : ∃ j r, i = j * 14 + r ∧ r < 14 ∧ j < xs.length := by
  have hl : i < (csPf xs).length := by
    rcases Nat.lt_or_ge i (csPf xs).length with h1 | h1
    · exact h1
    · rw [List.getElem?_eq_none h1] at h; cases h
  rw [csPf_length] at hl
  exact ⟨i / 14, i % 14, by omega, by omega, by omega⟩
theorem add_atPf (g o n : Nat) : (⟨g, o, none⟩ : Addr).add n = ⟨g, o + n, none⟩ := by
  unfold Addr.add; split
  · subst n; rfl
  · rfl
theorem SPf.cells {w : World} {g o : Nat} {xs : List Pf} (h : SPf w (some ⟨g, o, none⟩) xs) : ∀ i u, (csPf xs)[i]? = some u → w.cell? ((⟨g, o, none⟩ : Addr).add i) = some u := by
  intro i u hu
  obtain ⟨j, r, rfl, hr, hj⟩ := csPf_split hu
  obtain ⟨a0, a1, a2, a3, a4, a5, a6, a7, a8, a9, a10, a11, a12, a13, _⟩ := h.at_ hj
  obtain ⟨x0, x1, x2, x3, x4, x5, x6, x7, x8, x9, x10, x11, x12, x13⟩ := csPf_get xs j hj
  rw [add_atPf]
  rcases (by omega : r = 0 ∨ r = 1 ∨ r = 2 ∨ r = 3 ∨ r = 4 ∨ r = 5 ∨ r = 6 ∨ r = 7 ∨ r = 8 ∨ r = 9 ∨ r = 10 ∨ r = 11 ∨ r = 12 ∨ r = 13) with rfl | rfl | rfl | rfl | rfl | rfl | rfl | rfl | rfl | rfl | rfl | rfl | rfl | rfl
  · rw [Nat.add_zero] at hu ⊢; rw [x0] at hu; rw [a0]; exact hu
  · rw [x1] at hu; rw [← Nat.add_assoc, a1]; exact hu
  · rw [x2] at hu; rw [← Nat.add_assoc, a2]; exact hu
  · rw [x3] at hu; rw [← Nat.add_assoc, a3]; exact hu
  · rw [x4] at hu; rw [← Nat.add_assoc, a4]; exact hu
  · rw [x5] at hu; rw [← Nat.add_assoc, a5]; exact hu
  · rw [x6] at hu; rw [← Nat.add_assoc, a6]; exact hu
  · rw [x7] at hu; rw [← Nat.add_assoc, a7]; exact hu
  · rw [x8] at hu; rw [← Nat.add_assoc, a8]; exact hu
  · rw [x9] at hu; rw [← Nat.add_assoc, a9]; exact hu
  · rw [x10] at hu; rw [← Nat.add_assoc, a10]; exact hu
  · rw [x11] at hu; rw [← Nat.add_assoc, a11]; exact hu
  · rw [x12] at hu; rw [← Nat.add_assoc, a12]; exact hu
  · rw [x13] at hu; rw [← Nat.add_assoc, a13]; exact hu
theorem SPf.of_cells {w : World} {g o : Nat} {xs : List Pf} (hlt : g < w.heap.size) (h : ∀ i u, (csPf xs)[i]? = some u → w.cell? ((⟨g, o, none⟩ : Addr).add i) = some u) : SPf w (some ⟨g, o, none⟩) xs := by
  intro _
  refine ⟨g, o, rfl, hlt, fun j hj => ?_⟩
  obtain ⟨x0, x1, x2, x3, x4, x5, x6, x7, x8, x9, x10, x11, x12, x13⟩ := csPf_get xs j hj
  refine ⟨?_, ?_, ?_, ?_, ?_, ?_, ?_, ?_, ?_, ?_, ?_, ?_, ?_, ?_, hlt⟩
  · have := h _ _ x0; rwa [add_atPf] at this
  · have := h _ _ x1; rwa [add_atPf, ← Nat.add_assoc] at this
  · have := h _ _ x2; rwa [add_atPf, ← Nat.add_assoc] at this
  · have := h _ _ x3; rwa [add_atPf, ← Nat.add_assoc] at this
  · have := h _ _ x4; rwa [add_atPf, ← Nat.add_assoc] at this
  · have := h _ _ x5; rwa [add_atPf, ← Nat.add_assoc] at this
  · have := h _ _ x6; rwa [add_atPf, ← Nat.add_assoc] at this
  · have := h _ _ x7; rwa [add_atPf, ← Nat.add_assoc] at this
  · have := h _ _ x8; rwa [add_atPf, ← Nat.add_assoc] at this
  · have := h _ _ x9; rwa [add_atPf, ← Nat.add_assoc] at this
  · have := h _ _ x10; rwa [add_atPf, ← Nat.add_assoc] at this
  · have := h _ _ x11; rwa [add_atPf, ← Nat.add_assoc] at this
  · have := h _ _ x12; rwa [add_atPf, ← Nat.add_assoc] at this
  · have := h _ _ x13; rwa [add_atPf, ← Nat.add_assoc] at this
theorem sPf_new (w : World) (s : Pf) : SPf (w.alloc (.cells #[.string s.id, .int .i64 s.es, .int .i64 s.cr, .string s.cd, .bool s.am.neg, .string s.am.num, .string s.am.den, .int .i64 s.inc, .int .i64 s.rk, .bool s.rt.neg, .string s.rt.num, .string s.rt.den, .int .i64 s.rf, .int .i64 s.sec] 27)) (some ⟨w.heap.size, 0, none⟩) [s] := by
  have b := BlkPf.alloc w (.string s.id) (.int .i64 s.es) (.int .i64 s.cr) (.string s.cd) (.bool s.am.neg) (.string s.am.num) (.string s.am.den) (.int .i64 s.inc) (.int .i64 s.rk) (.bool s.rt.neg) (.string s.rt.num) (.string s.rt.den) (.int .i64 s.rf) (.int .i64 s.sec) 27
  intro _
  refine ⟨_, 0, rfl, b.lt, fun j hj => ?_⟩
  obtain rfl : j = 0 := by simp at hj; omega
  exact ⟨b.c0, b.c1, b.c2, b.c3, b.c4, b.c5, b.c6, b.c7, b.c8, b.c9, b.c10, b.c11, b.c12, b.c13, b.lt⟩

/-- A slice of the program's own (nil, or from the head of a block on) that holds the elements xs. -/
def OwnPf (w : World) (v : Value) (xs : List Pf) : Prop := w.ownsRow 0 27 14 v xs.length (csPf xs)
theorem OwnPf.nil (w : World) : OwnPf w (.slice none 0 0) [] := World.ownsRow_nil _ _ _ _
theorem OwnPf.form {w : World} {v : Value} {xs : List Pf} (h : OwnPf w v xs) : (v = .slice none 0 0 ∧ xs = []) ∨ ∃ g cap, v = .slice (some ⟨g, 0, none⟩) xs.length cap ∧ g < w.heap.size ∧ xs.length ≤ cap ∧ cap ≤ 9223372036854775807 ∧ SPf w (some ⟨g, 0, none⟩) xs := by
  have h0 := h
  rcases h.2 with ⟨rfl, h1⟩ | ⟨g, cap, cur, rfl, hb, hgg, h1, h2, _⟩
  · refine .inl ⟨rfl, ?_⟩
    have := csPf_length xs
    rw [h1] at this
    exact List.eq_nil_of_length_eq_zero (by simp at this; omega)
  · have hlt := (World.ownsRow.lt h0 g rfl).2
    exact .inr ⟨g, cap, rfl, hlt, h1, by simpa [maxLen] using h2, SPf.of_cells hlt (World.ownsRow.cells h0 rfl)⟩
theorem OwnPf.rds {w : World} {v : Value} {xs : List Pf} (h : OwnPf w v xs) : ∃ A cap, v = .slice A xs.length cap ∧ xs.length ≤ cap ∧ cap ≤ 9223372036854775807 ∧ SPf w A xs := by
  rcases h.form with ⟨rfl, rfl⟩ | ⟨g, cap, rfl, _, h1, h2, h3⟩
  · exact ⟨none, 0, rfl, Nat.le_refl _, by omega, SPf.nil _ _⟩
  · exact ⟨_, cap, rfl, h1, h2, h3⟩
theorem OwnPf.keep {gs : List Nat} {w w' : World} {v : Value} {xs : List Pf} (h : OwnPf w v xs) (hc : Chg gs w w') (hg : OffV gs v) : OwnPf w' v xs := by
  have h0 := h
  refine ⟨h.1, ?_⟩
  rcases h.2 with h1 | ⟨g, cap, cur, rfl, hb, hgg, rest⟩
  · exact .inl h1
  · have hlt := (World.ownsRow.lt h0 g rfl).2
    have hn : g ∉ gs := hg g rfl
    exact .inr ⟨g, cap, cur, rfl, hb, (hc.block g hlt hn).trans hgg, rest⟩
theorem OwnPf.keep0 {w w' : World} {v : Value} {xs : List Pf} (h : OwnPf w v xs) (hc : Chg [] w w') : OwnPf w' v xs := h.keep hc (OffV.nil v)

theorem infoPf : (Tryz.prog.info? 27).map (fun i => (i.zero, i.size, i.bytes)) = some (some (.agg #[.string ⟨#[]⟩, .int .i64 0, .int .i64 0, .string ⟨#[]⟩, .bool false, .string ⟨#[]⟩, .string ⟨#[]⟩, .int .i64 0, .int .i64 0, .bool false, .string ⟨#[]⟩, .string ⟨#[]⟩, .int .i64 0, .int .i64 0]), 14, 160) := by kernel_rfl
theorem underPf : Tryz.prog.underlying 29 = some (.slice 27) := Tryz.underlying29

section
variable (w : World)
/-- Append of one element to a slice of the program's own. -/
theorem run_appendPf (ty : TypeId) (v : Value) (xs : List Pf) (hown : OwnPf w v xs) (ad : Addr) (c : Nat) (y : Pf) (hr : SPf w (some ad) [y]) (hb : xs.length + 1 ≤ 1000000000) :
    ∃ v' w', (Builtin.append_ #[29, 29] ty #[v, .slice (some ad) 1 c]).run Tryz.prog w = .ok v' w' ∧ OwnPf w' v' (xs ++ [y]) ∧ Chg v.ownBlock.toList w w' ∧ (v'.ownBlock = v.ownBlock ∨ v'.ownBlock = some w.heap.size) := by
  obtain ⟨i, hi, hz0, hz1, hz2⟩ := info_parts infoPf
  have hlen : (xs ++ [y]).length = xs.length + 1 := List.length_append
  have hcells : ∀ j u, (csPf [y])[j]? = some u → w.cell? (ad.add j) = some u := by
    intro j u hu
    obtain ⟨g, o, h, _⟩ := hr.form (by simp)
    simp only [Option.some.injEq] at h
    subst h
    exact hr.cells j u hu
  obtain ⟨v', w', hrun, h2, h3, _, h5⟩ := run_append_own_at (P := Tryz.prog) w 0 29 ty 27 i _ 14 160 underPf hi hz0 hz1 hz2 rfl (by omega) v xs.length (csPf xs) hown ad 1 c (csPf [y]) (csPf_length [y]) hcells (csPf_one [y]) (by simp only [maxLen]; omega) (by omega) (Nat.zero_le _)
  refine ⟨v', w', hrun, ?_, Chg.of_grownv h3 (fun k hk => by rw [hk]; simp), h5⟩
  unfold OwnPf
  rw [hlen, csPf_append]; exact h2
theorem wp_appendPf {o : Oper} {a : Act} {K : Act → World → Prop} {Q : Exit → Act → World → Prop} (s x : Operand) (ho : o.op = .call { callee := .builtin .append, args := #[s, x], argTypes := #[29, 29] })
    (v : Value) (xs : List Pf) (hs : a.eval s = v) (hown : OwnPf w v xs) (ad : Addr) (c : Nat) (y : Pf) (hx : a.eval x = .slice (some ad) 1 c) (hr : SPf w (some ad) [y]) (hb : xs.length + 1 ≤ 1000000000)
    (h : ∀ v' w', OwnPf w' v' (xs ++ [y]) → Chg v.ownBlock.toList w w' → (v'.ownBlock = v.ownBlock ∨ v'.ownBlock = some w.heap.size) → K (a.put o.dst v') w') : Oper.wp Tryz.prog o a w K Q := by
  obtain ⟨v', w', hrun, h2, h3, h4⟩ := run_appendPf w o.type v xs hown ad c y hr hb
  unfold Oper.wp execOp
  simp only [ho, resolve, invoke, builtin, Sem.run_bind, Sem.run_pure, Result.andThen_ok, List.map_toArray, List.map_cons, List.map_nil, hs, hx, hrun]
  exact h v' w' h2 h3 h4
theorem wpList_appendPf {ops : Array Oper} {rest : List Oper} {o : Oper} {a : Act} {Q : Exit → Act → World → Prop} (hgd : o.guard = none) (s x : Operand) (ho : o.op = .call { callee := .builtin .append, args := #[s, x], argTypes := #[29, 29] })
    (v : Value) (xs : List Pf) (hs : a.eval s = v) (hown : OwnPf w v xs) (ad : Addr) (c : Nat) (y : Pf) (hx : a.eval x = .slice (some ad) 1 c) (hr : SPf w (some ad) [y]) (hb : xs.length + 1 ≤ 1000000000)
    (h : ∀ v' w', OwnPf w' v' (xs ++ [y]) → Chg v.ownBlock.toList w w' → (v'.ownBlock = v.ownBlock ∨ v'.ownBlock = some w.heap.size) → wpList Tryz.prog ops Q rest (a.put o.dst v') w') : wpList Tryz.prog ops Q (o :: rest) a w :=
  wpList_plain hgd fun _ hK => wp_appendPf w s x ho v xs hs hown ad c y hx hr hb fun v' w' h2 h3 h4 => hK _ _ (h v' w' h2 h3 h4)
theorem step_appendPf {ops : Array Oper} {o : Oper} {a : Act} {K : Act → World → Prop} {Q : Exit → Act → World → Prop} {E : Prop} (hgd : o.guard = none) (s x : Operand) (ho : o.op = .call { callee := .builtin .append, args := #[s, x], argTypes := #[29, 29] })
    (v : Value) (xs : List Pf) (hs : a.eval s = v) (hown : OwnPf w v xs) (ad : Addr) (c : Nat) (y : Pf) (hx : a.eval x = .slice (some ad) 1 c) (hr : SPf w (some ad) [y]) (hb : xs.length + 1 ≤ 1000000000)
    (h : ∀ v' w', OwnPf w' v' (xs ++ [y]) → Chg v.ownBlock.toList w w' → (v'.ownBlock = v.ownBlock ∨ v'.ownBlock = some w.heap.size) → K (a.put o.dst v') w') :
    if Region.wanted o (yielded ops a.tmps) = true then Oper.wp Tryz.prog o a w K Q else E := by
  have hw : Region.wanted o (yielded ops a.tmps) = true := by simp [Region.wanted, hgd]
  rw [if_pos hw]
  exact wp_appendPf w s x ho v xs hs hown ad c y hx hr hb h
end
end Go.Proofs.YtogciehmdlfkfaaGreatDoor

/- Part DT. -/

namespace Go.Proofs.YtogciehmdlfkfaaGreatDoor
open Go.RowKit Nd

abbrev Wd := ByteArray
def wd0 : Wd := ⟨#[]⟩
abbrev Wd.val (s : Wd) : Value := .string s

structure BlkWd (w : World) (g : Nat) (v0 : Value) : Prop where
  c0 : w.cell? ⟨g, 0, none⟩ = some v0
  f0 : w.frozen? ⟨g, 0, none⟩ = false
  lt : g < w.heap.size
theorem BlkWd.alloc (w : World) (v0 : Value) (e : TypeId) : BlkWd (w.alloc (.cells #[v0] e)) w.heap.size v0 := by
  constructor <;> simp
theorem BlkWd.keep {gs : List Nat} {w w' : World} {g : Nat} {v0 : Value} (h : BlkWd w g v0) (hc : Chg gs w w') (hg : g ∉ gs) : BlkWd w' g v0 := by
  have hl := h.lt
  refine ⟨(hc.cell hl hg).trans h.c0, ?_, Nat.lt_of_lt_of_le hl hc.size⟩
  · exact (World.frozen?_of_block (hc.block _ hl hg)).trans h.f0
theorem BlkWd.keep0 {w w' : World} {g : Nat} {v0 : Value} (h : BlkWd w g v0) (hc : Chg [] w w') : BlkWd w' g v0 := h.keep hc (by simp)

theorem Chg.stWd {gs : List Nat} {a w : World} (h : Chg gs a w) {g : Nat} (hg : g ∈ gs ∨ a.heap.size ≤ g) (v0 : Value) : Chg gs a (w.setCell ⟨g, 0, none⟩ v0) :=
  h.setCell hg _
theorem BlkWd.sto {w : World} {g : Nat} {a0 : Value} (h : BlkWd w g a0) (v0 : Value) : BlkWd (w.setCell ⟨g, 0, none⟩ v0) g v0 := by
  obtain ⟨c0, f0, l⟩ := h
  refine ⟨?_, ?_, ?_⟩
  · simp [go_sem, c0]
  · rw [World.frozen?_setCell]; exact f0
  · simpa using l

structure CWd (w : World) (g o : Nat) (s : Wd) : Prop where
  c0 : w.cell? ⟨g, o, none⟩ = some (.string s)
  l : g < w.heap.size
theorem CWd.keep {gs : List Nat} {w w' : World} {g o : Nat} {s : Wd} (h : CWd w g o s) (hc : Chg gs w w') (hg : g ∉ gs) : CWd w' g o s :=
  ⟨(hc.cell (p := ⟨g, _, none⟩) h.l hg).trans h.c0, Nat.lt_of_lt_of_le h.l hc.size⟩
theorem CWd.keep0 {w w' : World} {g o : Nat} {s : Wd} (h : CWd w g o s) (hc : Chg [] w w') : CWd w' g o s := h.keep hc (by simp)
def SWd (w : World) (A : Option Addr) (xs : List Wd) : Prop :=
  0 < xs.length → ∃ g o, A = some ⟨g, o, none⟩ ∧ g < w.heap.size ∧ ∀ j, j < xs.length → CWd w g (o + j * 1) (xs.getD j wd0)
theorem SWd.nil (w : World) (A : Option Addr) : SWd w A [] := fun h => absurd h (by simp)
theorem SWd.keep {gs : List Nat} {w w' : World} {A : Option Addr} {xs : List Wd} (h : SWd w A xs) (hc : Chg gs w w') (hg : Off gs A) : SWd w' A xs := by
  intro hl
  obtain ⟨g, o, rfl, hlt, hcell⟩ := h hl
  exact ⟨g, o, rfl, Nat.lt_of_lt_of_le hlt hc.size, fun j hj => (hcell j hj).keep hc (hg _ rfl)⟩
theorem SWd.keep0 {w w' : World} {A : Option Addr} {xs : List Wd} (h : SWd w A xs) (hc : Chg [] w w') : SWd w' A xs := h.keep hc (Off.nil A)
theorem SWd.keepL {gs : List Nat} {w w' : World} {A : Option Addr} {xs : List Wd} {N : Nat} (h : SWd w A xs) (hlow : 0 < xs.length → ∃ g o, A = some ⟨g, o, none⟩ ∧ g < N) (hc : Chg gs w w') (hg : ∀ x ∈ gs, N ≤ x) : SWd w' A xs := by
  intro hl
  obtain ⟨g, o, e, hlt⟩ := hlow hl
  exact h.keep hc (by intro a ha hm; rw [e] at ha; cases ha; have := hg _ hm; dsimp only at this; omega) hl
theorem SWd.form {w : World} {A : Option Addr} {xs : List Wd} (h : SWd w A xs) (hl : 0 < xs.length) : ∃ g o, A = some ⟨g, o, none⟩ ∧ g < w.heap.size := by
  obtain ⟨g, o, e, hlt, _⟩ := h hl
  exact ⟨g, o, e, hlt⟩
theorem SWd.at_ {w : World} {g o : Nat} {xs : List Wd} (h : SWd w (some ⟨g, o, none⟩) xs) {j : Nat} (hj : j < xs.length) : CWd w g (o + j * 1) (xs.getD j wd0) := by
  obtain ⟨g', o', he, hlt, hcell⟩ := h (by omega)
  simp only [Option.some.injEq, Addr.mk.injEq, and_true] at he
  obtain ⟨rfl, rfl⟩ := he
  exact hcell j hj
theorem SWd.st3 {w : World} {g o k : Nat} {xs : List Wd} (h : SWd w (some ⟨g, o, none⟩) xs) (hk : g ≠ k) (x y z : Value) : SWd (((w.setCell ⟨k, 0, none⟩ x).setCell ⟨k, 1, none⟩ y).setCell ⟨k, 2, none⟩ z) (some ⟨g, o, none⟩) xs :=
  h.keep ((Chg.refl [k] w).store3 (.inl (by simp)) x y z) (by intro a ha; cases ha; simpa using hk)
theorem SWd.take {w : World} {A : Option Addr} {xs : List Wd} (h : SWd w A xs) (k : Nat) : SWd w A (xs.take k) := by
  intro hl
  obtain ⟨g, o, e, hlt, hc⟩ := h (by rw [List.length_take] at hl; omega)
  refine ⟨g, o, e, hlt, fun j hj => ?_⟩
  rw [List.length_take] at hj
  have hg : (xs.take k).getD j wd0 = xs.getD j wd0 := by
    rw [List.getD_eq_getElem?_getD, List.getD_eq_getElem?_getD, List.getElem?_take_of_lt (by omega)]
  rw [hg]; exact hc j (by omega)
theorem memWd {l : List Wd} {j : Nat} (h : j < l.length) : l.getD j wd0 ∈ l := by
  rw [List.getD_eq_getElem?_getD, List.getElem?_eq_getElem h, Option.getD_some]; exact List.getElem_mem _
theorem take_snocWd (xs : List Wd) (k : Nat) (h : k < xs.length) : xs.take (k + 1) = xs.take k ++ [xs.getD k wd0] := by
  rw [List.take_add_one, List.getD_eq_getElem?_getD, List.getElem?_eq_getElem h]; rfl
theorem snoc_getWd (xs : List Wd) (s : Wd) (j : Nat) : (xs ++ [s]).getD j wd0 = if j < xs.length then xs.getD j wd0 else if j = xs.length then s else wd0 := by
  rw [List.getD_eq_getElem?_getD, List.getD_eq_getElem?_getD]
  split
  · rename_i h; rw [List.getElem?_append_left h]
  · rename_i h
    split
    · rename_i h2; subst h2; rw [List.getElem?_append_right (Nat.le_refl _), Nat.sub_self]; rfl
    · rename_i h2
      rw [List.getElem?_eq_none (by simp; omega)]; rfl

/-- The cells of elements one behind the other. -/
def csWd : List Wd → List Value
  | [] => []
  | x :: xs => .string x :: csWd xs
theorem csWd_length : ∀ xs : List Wd, (csWd xs).length = xs.length * 1
  | [] => rfl
  | x :: xs => by simp only [csWd, List.length_cons, csWd_length xs]; omega
theorem csWd_append : ∀ xs ys : List Wd, csWd (xs ++ ys) = csWd xs ++ csWd ys
  | [], _ => rfl
  | x :: xs, ys => by simp only [List.cons_append, csWd, csWd_append xs ys]
theorem csWd_one : ∀ (xs : List Wd), ∀ u ∈ csWd xs, u.oneCell' = true
  | [], u, h => by cases h
  | x :: xs, u, h => by
    simp only [csWd, List.mem_cons] at h
    rcases h with rfl | h
    · rfl
    · exact csWd_one xs u h
theorem csWd_get : ∀ (xs : List Wd) (j : Nat), j < xs.length → (csWd xs)[j * 1]? = some (.string (xs.getD j wd0))
  | [], j, h => absurd h (by simp)
  | x :: xs, 0, _ => by simp [csWd]
  | x :: xs, j + 1, h => by
    have := csWd_get xs j (by simpa using h)
    rw [show (j + 1) * 1 = j * 1 + 1 by omega]
    simp only [csWd, List.getElem?_cons_succ, List.getD_cons_succ, ]
    exact this
theorem csWd_split {xs : List Wd} {i : Nat} {u : Value} (h : (csWd xs)[i]? = some u) : ∃ j r, i = j * 1 + r ∧ r < 1 ∧ j < xs.length := by
  have hl : i < (csWd xs).length := by
    rcases Nat.lt_or_ge i (csWd xs).length with h1 | h1
    · exact h1
    · rw [List.getElem?_eq_none h1] at h; cases h
  rw [csWd_length] at hl
  exact ⟨i / 1, i % 1, by omega, by omega, by omega⟩
theorem add_atWd (g o n : Nat) : (⟨g, o, none⟩ : Addr).add n = ⟨g, o + n, none⟩ := by
  unfold Addr.add; split
  · subst n; rfl
  · rfl
theorem SWd.cells {w : World} {g o : Nat} {xs : List Wd} (h : SWd w (some ⟨g, o, none⟩) xs) : ∀ i u, (csWd xs)[i]? = some u → w.cell? ((⟨g, o, none⟩ : Addr).add i) = some u := by
  intro i u hu
  obtain ⟨j, r, rfl, hr, hj⟩ := csWd_split hu
  obtain ⟨a0, _⟩ := h.at_ hj
  have x0 := csWd_get xs j hj
  rw [add_atWd]
  rcases (by omega : r = 0) with rfl
  · rw [Nat.add_zero] at hu ⊢; rw [x0] at hu; rw [a0]; exact hu
theorem SWd.of_cells {w : World} {g o : Nat} {xs : List Wd} (hlt : g < w.heap.size) (h : ∀ i u, (csWd xs)[i]? = some u → w.cell? ((⟨g, o, none⟩ : Addr).add i) = some u) : SWd w (some ⟨g, o, none⟩) xs := by
  intro _
  refine ⟨g, o, rfl, hlt, fun j hj => ?_⟩
  have x0 := csWd_get xs j hj
  refine ⟨?_, hlt⟩
  · have := h _ _ x0; rwa [add_atWd] at this
theorem sWd_new (w : World) (s : Wd) : SWd (w.alloc (.cells #[.string s] 9)) (some ⟨w.heap.size, 0, none⟩) [s] := by
  have b := BlkWd.alloc w (.string s) 9
  intro _
  refine ⟨_, 0, rfl, b.lt, fun j hj => ?_⟩
  obtain rfl : j = 0 := by simp at hj; omega
  exact ⟨b.c0, b.lt⟩

/-- A slice of the program's own (nil, or from the head of a block on) that holds the elements xs. -/
def OwnWd (w : World) (v : Value) (xs : List Wd) : Prop := w.ownsRow 0 9 1 v xs.length (csWd xs)
theorem OwnWd.nil (w : World) : OwnWd w (.slice none 0 0) [] := World.ownsRow_nil _ _ _ _
theorem OwnWd.form {w : World} {v : Value} {xs : List Wd} (h : OwnWd w v xs) : (v = .slice none 0 0 ∧ xs = []) ∨ ∃ g cap, v = .slice (some ⟨g, 0, none⟩) xs.length cap ∧ g < w.heap.size ∧ xs.length ≤ cap ∧ cap ≤ 9223372036854775807 ∧ SWd w (some ⟨g, 0, none⟩) xs := by
  have h0 := h
  rcases h.2 with ⟨rfl, h1⟩ | ⟨g, cap, cur, rfl, hb, hgg, h1, h2, _⟩
  · refine .inl ⟨rfl, ?_⟩
    have := csWd_length xs
    rw [h1] at this
    exact List.eq_nil_of_length_eq_zero (by simp at this; omega)
  · have hlt := (World.ownsRow.lt h0 g rfl).2
    exact .inr ⟨g, cap, rfl, hlt, h1, by simpa [maxLen] using h2, SWd.of_cells hlt (World.ownsRow.cells h0 rfl)⟩
theorem OwnWd.rds {w : World} {v : Value} {xs : List Wd} (h : OwnWd w v xs) : ∃ A cap, v = .slice A xs.length cap ∧ xs.length ≤ cap ∧ cap ≤ 9223372036854775807 ∧ SWd w A xs := by
  rcases h.form with ⟨rfl, rfl⟩ | ⟨g, cap, rfl, _, h1, h2, h3⟩
  · exact ⟨none, 0, rfl, Nat.le_refl _, by omega, SWd.nil _ _⟩
  · exact ⟨_, cap, rfl, h1, h2, h3⟩
theorem OwnWd.keep {gs : List Nat} {w w' : World} {v : Value} {xs : List Wd} (h : OwnWd w v xs) (hc : Chg gs w w') (hg : OffV gs v) : OwnWd w' v xs := by
  have h0 := h
  refine ⟨h.1, ?_⟩
  rcases h.2 with h1 | ⟨g, cap, cur, rfl, hb, hgg, rest⟩
  · exact .inl h1
  · have hlt := (World.ownsRow.lt h0 g rfl).2
    have hn : g ∉ gs := hg g rfl
    exact .inr ⟨g, cap, cur, rfl, hb, (hc.block g hlt hn).trans hgg, rest⟩
theorem OwnWd.keep0 {w w' : World} {v : Value} {xs : List Wd} (h : OwnWd w v xs) (hc : Chg [] w w') : OwnWd w' v xs := h.keep hc (OffV.nil v)

theorem infoWd : (Tryz.prog.info? 9).map (fun i => (i.zero, i.size, i.bytes)) = some (some (.string ⟨#[]⟩), 1, 16) := by kernel_rfl
theorem underWd : Tryz.prog.underlying 47 = some (.slice 9) := Tryz.underlying47

section
variable (w : World)
/-- Append of one element to a slice of the program's own. -/
theorem run_appendWd (ty : TypeId) (v : Value) (xs : List Wd) (hown : OwnWd w v xs) (ad : Addr) (c : Nat) (y : Wd) (hr : SWd w (some ad) [y]) (hb : xs.length + 1 ≤ 1000000000) :
    ∃ v' w', (Builtin.append_ #[47, 47] ty #[v, .slice (some ad) 1 c]).run Tryz.prog w = .ok v' w' ∧ OwnWd w' v' (xs ++ [y]) ∧ Chg v.ownBlock.toList w w' ∧ (v'.ownBlock = v.ownBlock ∨ v'.ownBlock = some w.heap.size) := by
  obtain ⟨i, hi, hz0, hz1, hz2⟩ := info_parts infoWd
  have hlen : (xs ++ [y]).length = xs.length + 1 := List.length_append
  have hcells : ∀ j u, (csWd [y])[j]? = some u → w.cell? (ad.add j) = some u := by
    intro j u hu
    obtain ⟨g, o, h, _⟩ := hr.form (by simp)
    simp only [Option.some.injEq] at h
    subst h
    exact hr.cells j u hu
  obtain ⟨v', w', hrun, h2, h3, _, h5⟩ := run_append_own_at (P := Tryz.prog) w 0 47 ty 9 i _ 1 16 underWd hi hz0 hz1 hz2 rfl (by omega) v xs.length (csWd xs) hown ad 1 c (csWd [y]) (csWd_length [y]) hcells (csWd_one [y]) (by simp only [maxLen]; omega) (by omega) (Nat.zero_le _)
  refine ⟨v', w', hrun, ?_, Chg.of_grownv h3 (fun k hk => by rw [hk]; simp), h5⟩
  unfold OwnWd
  rw [hlen, csWd_append]; exact h2
theorem wp_appendWd {o : Oper} {a : Act} {K : Act → World → Prop} {Q : Exit → Act → World → Prop} (s x : Operand) (ho : o.op = .call { callee := .builtin .append, args := #[s, x], argTypes := #[47, 47] })
    (v : Value) (xs : List Wd) (hs : a.eval s = v) (hown : OwnWd w v xs) (ad : Addr) (c : Nat) (y : Wd) (hx : a.eval x = .slice (some ad) 1 c) (hr : SWd w (some ad) [y]) (hb : xs.length + 1 ≤ 1000000000)
    (h : ∀ v' w', OwnWd w' v' (xs ++ [y]) → Chg v.ownBlock.toList w w' → (v'.ownBlock = v.ownBlock ∨ v'.ownBlock = some w.heap.size) → K (a.put o.dst v') w') : Oper.wp Tryz.prog o a w K Q := by
  obtain ⟨v', w', hrun, h2, h3, h4⟩ := run_appendWd w o.type v xs hown ad c y hr hb
  unfold Oper.wp execOp
  simp only [ho, resolve, invoke, builtin, Sem.run_bind, Sem.run_pure, Result.andThen_ok, List.map_toArray, List.map_cons, List.map_nil, hs, hx, hrun]
  exact h v' w' h2 h3 h4
theorem wpList_appendWd {ops : Array Oper} {rest : List Oper} {o : Oper} {a : Act} {Q : Exit → Act → World → Prop} (hgd : o.guard = none) (s x : Operand) (ho : o.op = .call { callee := .builtin .append, args := #[s, x], argTypes := #[47, 47] })
    (v : Value) (xs : List Wd) (hs : a.eval s = v) (hown : OwnWd w v xs) (ad : Addr) (c : Nat) (y : Wd) (hx : a.eval x = .slice (some ad) 1 c) (hr : SWd w (some ad) [y]) (hb : xs.length + 1 ≤ 1000000000)
    (h : ∀ v' w', OwnWd w' v' (xs ++ [y]) → Chg v.ownBlock.toList w w' → (v'.ownBlock = v.ownBlock ∨ v'.ownBlock = some w.heap.size) → wpList Tryz.prog ops Q rest (a.put o.dst v') w') : wpList Tryz.prog ops Q (o :: rest) a w :=
  wpList_plain hgd fun _ hK => wp_appendWd w s x ho v xs hs hown ad c y hx hr hb fun v' w' h2 h3 h4 => hK _ _ (h v' w' h2 h3 h4)
theorem step_appendWd {ops : Array Oper} {o : Oper} {a : Act} {K : Act → World → Prop} {Q : Exit → Act → World → Prop} {E : Prop} (hgd : o.guard = none) (s x : Operand) (ho : o.op = .call { callee := .builtin .append, args := #[s, x], argTypes := #[47, 47] })
    (v : Value) (xs : List Wd) (hs : a.eval s = v) (hown : OwnWd w v xs) (ad : Addr) (c : Nat) (y : Wd) (hx : a.eval x = .slice (some ad) 1 c) (hr : SWd w (some ad) [y]) (hb : xs.length + 1 ≤ 1000000000)
    (h : ∀ v' w', OwnWd w' v' (xs ++ [y]) → Chg v.ownBlock.toList w w' → (v'.ownBlock = v.ownBlock ∨ v'.ownBlock = some w.heap.size) → K (a.put o.dst v') w') :
    if Region.wanted o (yielded ops a.tmps) = true then Oper.wp Tryz.prog o a w K Q else E := by
  have hw : Region.wanted o (yielded ops a.tmps) = true := by simp [Region.wanted, hgd]
  rw [if_pos hw]
  exact wp_appendWd w s x ho v xs hs hown ad c y hx hr hb h
end
end Go.Proofs.YtogciehmdlfkfaaGreatDoor

/- Part DM3. -/

namespace Go.Proofs.YtogciehmdlfkfaaGreatDoor
open Go.RowKit Nd

def sID : ByteArray := ⟨#[73, 68]⟩
def sCODE : ByteArray := ⟨#[67, 79, 68, 69]⟩
def sR : ByteArray := ⟨#[82]⟩
def sN : ByteArray := ⟨#[78]⟩
def kPro : ByteArray := ⟨#[112, 114, 111, 111, 102]⟩
def kEst : ByteArray := ⟨#[101, 115, 116, 97, 116, 101]⟩
def kCre : ByteArray := ⟨#[99, 114, 101, 100, 105, 116, 111, 114]⟩
def kAmo : ByteArray := ⟨#[97, 109, 111, 117, 110, 116]⟩
def kInc : ByteArray := ⟨#[105, 110, 99, 117, 114, 114, 101, 100]⟩
def kRan : ByteArray := ⟨#[114, 97, 110, 107]⟩
def kInt : ByteArray := ⟨#[105, 110, 116, 101, 114, 101, 115, 116]⟩
def kSec : ByteArray := ⟨#[115, 101, 99, 117, 114, 101, 100]⟩
def kFro : ByteArray := ⟨#[102, 114, 111, 109]⟩
/-- The forms of lines, as words. -/
def formsW : List (List ByteArray) := [[kPro, sID], [kEst, sN], [kCre, sN], [kAmo, sCODE, sR], [kInc, sN], [kRan, sN], [kInt, sR, kFro, sN], [kSec, sN]]
/-- The forms of lines, as strings. -/
def formsS : List ByteArray := [⟨#[112, 114, 111, 111, 102, 32, 73, 68]⟩, ⟨#[101, 115, 116, 97, 116, 101, 32, 78]⟩, ⟨#[99, 114, 101, 100, 105, 116, 111, 114, 32, 78]⟩, ⟨#[97, 109, 111, 117, 110, 116, 32, 67, 79, 68, 69, 32, 82]⟩, ⟨#[105, 110, 99, 117, 114, 114, 101, 100, 32, 78]⟩, ⟨#[114, 97, 110, 107, 32, 78]⟩, ⟨#[105, 110, 116, 101, 114, 101, 115, 116, 32, 82, 32, 102, 114, 111, 109, 32, 78]⟩, ⟨#[115, 101, 99, 117, 114, 101, 100, 32, 78]⟩]
theorem formsS_words (i : Nat) (h : i < 8) : wordsB (formsS.getD i wd0) = formsW.getD i [] := by
  have : ∀ i, i < 8 → wordsB (formsS.getD i wd0) = formsW.getD i [] := by decide +kernel
  exact this i h
/-- Whether a word fits a part of a form. -/
def fitW (p w : ByteArray) : Bool := if p = sID ∨ p = sCODE ∨ p = sR then true else if p = sN then numB w else decide (w = p)
def hasF (ws f : List ByteArray) : Bool := decide (ws.length = f.length) && decide (∀ i, i < f.length → fitW (f.getD i wd0) (ws.getD i wd0) = true)
def kindFrom (ws : List ByteArray) : List (List ByteArray) → Int → Int
  | [], _ => -1
  | f :: fs, k => if hasF ws f then k else kindFrom ws fs (k + 1)
/-- The kind of a line: 0 to 7, or -1. -/
def kindW (ws : List ByteArray) : Int := kindFrom ws formsW 0
theorem kindFrom_skip (ws : List ByteArray) : ∀ (l : List (List ByteArray)) (k : Int) (i : Nat), i ≤ l.length → (∀ j, j < i → hasF ws (l.getD j []) = false) → kindFrom ws l k = kindFrom ws (l.drop i) (k + i)
  | l, k, 0, _, _ => by simp
  | [], k, i + 1, h, _ => by simp at h
  | f :: l, k, i + 1, h, hn => by
    have h0 := hn 0 (by omega)
    simp only [List.getD_cons_zero] at h0
    rw [kindFrom, if_neg (by simp [h0]), List.drop_succ_cons, kindFrom_skip ws l (k + 1) i (by simpa using h) (fun j hj => by have := hn (j + 1) (by omega); simpa using this)]
    congr 1
    omega
theorem kindW_at (ws : List ByteArray) (i : Nat) (hi : i < 8) (hn : ∀ j, j < i → hasF ws (formsW.getD j []) = false) (h : hasF ws (formsW.getD i []) = true) : kindW ws = i := by
  have hl : formsW.length = 8 := rfl
  unfold kindW
  rw [kindFrom_skip ws formsW 0 i (by omega) hn]
  rw [List.drop_eq_getElem_cons (by omega), kindFrom, if_pos]
  · omega
  · rw [List.getD_eq_getElem?_getD, List.getElem?_eq_getElem (by omega), Option.getD_some] at h; exact h
theorem kindW_none (ws : List ByteArray) (hn : ∀ j, j < 8 → hasF ws (formsW.getD j []) = false) : kindW ws = -1 := by
  unfold kindW
  rw [kindFrom_skip ws formsW 0 8 (Nat.le_refl 8) hn]; rfl
/-- Whether a line of a kind may follow. -/
def folB (last k : Int) : Bool := if k = 0 then decide (last = -1 ∨ 5 ≤ last) else if k ≤ 5 then decide (k = last + 1) else decide (5 ≤ last ∧ last < k)
/-- The valid form of a number. -/
def qc (q : Rat) : Q3 := ⟨decide (q.num < 0), nb q.num.natAbs, nb (if q.den = 1 then 0 else q.den)⟩
theorem qc_enc (q : Rat) : Enc (qc q) q := ⟨rfl, Is_nb _, Is_nb _⟩
theorem Enc_qc {x : Q3} {q : Rat} (h : Enc x q) : x = qc q := h.unique (qc_enc q)
/-- A number word: its value and error. -/
def numE (w : ByteArray) (top : Int) : Int := if (numV w : Int) ≤ top then 0 else 1
def numI (w : ByteArray) (top : Int) : Int := if (numV w : Int) ≤ top then numV w else 0
def qtyE (w : ByteArray) : Int := if (parseP w.data.toList).1 = 0 ∧ (parseP w.data.toList).2 < 0 then 7 else (parseP w.data.toList).1
def qtyQ (w : ByteArray) : Rat := if (parseP w.data.toList).1 = 0 ∧ (parseP w.data.toList).2 < 0 then 0 else (parseP w.data.toList).2
/-- The error of a line behind the first one of a document. -/
def setE (k : Int) (ws : List ByteArray) : Int :=
  if k = 1 then numE (ws.getD 1 wd0) 7 else if k = 2 then numE (ws.getD 1 wd0) 31
  else if k = 3 then (if codeB (ws.getD 1 wd0) then qtyE (ws.getD 2 wd0) else 8)
  else if k = 4 then numE (ws.getD 1 wd0) 1048576 else if k = 5 then numE (ws.getD 1 wd0) 7
  else if k = 6 then (if qtyE (ws.getD 1 wd0) ≠ 0 then qtyE (ws.getD 1 wd0) else if qtyQ (ws.getD 1 wd0) = 0 then 1 else numE (ws.getD 3 wd0) 1048576)
  else numE (ws.getD 1 wd0) 7
/-- The document with such a line. -/
def setP (p : Pf) (k : Int) (ws : List ByteArray) : Pf :=
  if k = 1 then { p with es := numV (ws.getD 1 wd0) } else if k = 2 then { p with cr := numV (ws.getD 1 wd0) }
  else if k = 3 then { p with cd := ws.getD 1 wd0, am := qc (qtyQ (ws.getD 2 wd0)) }
  else if k = 4 then { p with inc := numV (ws.getD 1 wd0) } else if k = 5 then { p with rk := numV (ws.getD 1 wd0) }
  else if k = 6 then { p with rt := qc (qtyQ (ws.getD 1 wd0)), rf := numV (ws.getD 3 wd0) }
  else { p with sec := numV (ws.getD 1 wd0) }
/-- The reader: documents and the kind of the last line. -/
structure Rdr where
  l : List Pf
  k : Int
def newP (id : ByteArray) : Pf := { pf0 with id := id, sec := -1 }
def lineE (r : Rdr) (line : ByteArray) (ended : Bool) : Int :=
  if ended = false ∨ kindW (wordsB line) = -1 ∨ folB r.k (kindW (wordsB line)) = false then 10
  else if kindW (wordsB line) = 0 then
    (if nameB ((wordsB line).getD 1 wd0) = false then 11 else if r.l.any (fun p => decide (p.id = (wordsB line).getD 1 wd0)) then 12 else if 64 ≤ r.l.length then 2 else 0)
  else setE (kindW (wordsB line)) (wordsB line)
def lineR (r : Rdr) (line : ByteArray) : Rdr :=
  if kindW (wordsB line) = 0 then ⟨r.l ++ [newP ((wordsB line).getD 1 wd0)], 0⟩
  else ⟨r.l.set (r.l.length - 1) (setP (r.l.getD (r.l.length - 1) pf0) (kindW (wordsB line)) (wordsB line)), kindW (wordsB line)⟩
def mayE (r : Rdr) : Bool := decide (r.k = -1) || decide (5 ≤ r.k)
/-- Reads the lines from number n on: documents, line, error. -/
def readL : List (List UInt8 × Bool) → Rdr → Int → List Pf × Int × Int
  | [], r, n => if mayE r then (r.l, 0, 0) else ([], n + 1, 10)
  | (s, e) :: t, r, n => if lineE r ⟨s.toArray⟩ e ≠ 0 then ([], n + 1, lineE r ⟨s.toArray⟩ e) else readL t (lineR r ⟨s.toArray⟩) (n + 1)
def longB (s : List UInt8) : Bool := decide (8192 < s.length) || decide (512 < (lnE s).length)
def parseT (s : List UInt8) : List Pf × Int × Int := if longB s then ([], 0, 2) else readL (lnE s) ⟨[], -1⟩ 0

/-- The error of a document. -/
def upB (n top : Int) : Bool := decide (0 ≤ n) && decide (n ≤ top)
def optE (p : Pf) : Int :=
  if sg (ratOf p.rt) < 0 then 7 else if upB p.rf 1048576 = false ∨ (sg (ratOf p.rt) = 0 ∧ p.rf ≠ 0) then 1
  else if p.sec ≠ -1 ∧ upB p.sec 7 = false then 1 else 0
def chkE (p : Pf) : Int :=
  if nameB p.id = false then 11 else if upB p.es 7 = false ∨ upB p.cr 31 = false then 1 else if codeB p.cd = false then 8
  else if sg (ratOf p.am) < 0 then 7 else if upB p.inc 1048576 = false ∨ upB p.rk 7 = false then 1 else optE p
def allFrom (l : List Pf) : Nat → Nat → Int
  | 0, _ => 0
  | f + 1, i => if i < l.length then (if chkE (l.getD i pf0) ≠ 0 then chkE (l.getD i pf0) else if (l.take i).any (fun p => decide (p.id = (l.getD i pf0).id)) then 12 else allFrom l f (i + 1)) else 0
/-- The error of a list of documents. -/
def allE (l : List Pf) : Int := if 64 < l.length then 2 else allFrom l l.length 0
def itL (n : Int) : List UInt8 := decL n.toNat
/-- The lines of a document. -/
def docL (p : Pf) : List UInt8 :=
  kPro.data.toList ++ 32 :: p.id.data.toList ++ [10] ++ (kEst.data.toList ++ 32 :: itL p.es ++ [10]) ++ (kCre.data.toList ++ 32 :: itL p.cr ++ [10])
  ++ (kAmo.data.toList ++ 32 :: p.cd.data.toList ++ 32 :: fmtL (ratOf p.am) ++ [10]) ++ (kInc.data.toList ++ 32 :: itL p.inc ++ [10]) ++ (kRan.data.toList ++ 32 :: itL p.rk ++ [10])
  ++ (if 0 < sg (ratOf p.rt) then kInt.data.toList ++ 32 :: fmtL (ratOf p.rt) ++ 32 :: kFro.data.toList ++ 32 :: itL p.rf ++ [10] else [])
  ++ (if p.sec ≠ -1 then kSec.data.toList ++ 32 :: itL p.sec ++ [10] else [])
def docsL (l : List Pf) : List UInt8 := (l.map docL).flatten
def fmtE (l : List Pf) : Int := if allE l ≠ 0 then allE l else if longB (docsL l) then 2 else 0
def fmtT (l : List Pf) : List UInt8 := if fmtE l ≠ 0 then [] else docsL l
end Go.Proofs.YtogciehmdlfkfaaGreatDoor
