/-
  Party: parties in memory; the errors of parties; the data of the mathematics.
-/
import Derived.Test.YtgdpcpbmjgaliaaPQ
import Derived.Test.YtgdpcpbmjgaliaaPM
namespace Go.Proofs.Ytgdpcpbmjgaliaa
open Go.RowKit Nd

/-- Parties as a value: the lists, their lengths, where they lie, their room. -/
structure PV where
  K : List Zn
  S : List Stk
  T : List Ti
  n : Nat
  m : Nat
  t : Nat
  AK : Option Addr
  AS : Option Addr
  AT : Option Addr
  cK : Nat
  cS : Nat
  cT : Nat
abbrev PV.val (p : PV) : Value := .agg #[.slice p.AK p.n p.cK, .slice p.AS p.m p.cS, .slice p.AT p.t p.cT]
structure PV.At (p : PV) (w : World) : Prop where
  kn : p.K.length = p.n
  sn : p.S.length = p.m
  tn : p.T.length = p.t
  kb : p.n ≤ 9223372036854775807
  sb : p.m ≤ 9223372036854775807
  tb : p.t ≤ 9223372036854775807
  k : SZn w p.AK p.K
  s : SStk w p.AS p.S
  t : STi w p.AT p.T
theorem PV.At.keep0 {p : PV} {w w' : World} (h : p.At w) (hc : Chg [] w w') : p.At w' := ⟨h.kn, h.sn, h.tn, h.kb, h.sb, h.tb, h.k.keep0 hc, h.s.keep0 hc, h.t.keep0 hc⟩
/-- The three lists lie below a bound. -/
structure PV.Low (p : PV) (N : Nat) : Prop where
  k : 0 < p.K.length → ∃ g o, p.AK = some ⟨g, o, none⟩ ∧ g < N
  s : 0 < p.S.length → ∃ g o, p.AS = some ⟨g, o, none⟩ ∧ g < N
  t : 0 < p.T.length → ∃ g o, p.AT = some ⟨g, o, none⟩ ∧ g < N
theorem PV.At.low {p : PV} {w : World} (h : p.At w) : p.Low w.heap.size := ⟨h.k.form, h.s.form, h.t.form⟩
theorem PV.At.keepL {p : PV} {w w' : World} {gs : List Nat} {N : Nat} (h : p.At w) (hl : p.Low N) (hc : Chg gs w w') (hg : ∀ x ∈ gs, N ≤ x) : p.At w' :=
  ⟨h.kn, h.sn, h.tn, h.kb, h.sb, h.tb, h.k.keepL hl.k hc hg, h.s.keepL hl.s hc hg, h.t.keepL hl.t hc hg⟩

/-! ### errors -/
/-- Whether x is a party. -/
def inB (n : Nat) (x : Int) : Bool := decide (0 ≤ x) && decide (x < n)
/-- Whether a and b are two different parties. -/
def twoB (n : Nat) (a b : Int) : Bool := inB n a && inB n b && decide (a ≠ b)
theorem inB_nat {n : Nat} {x : Int} (h : inB n x = true) : ∃ k : Nat, x = (k : Int) ∧ k < n := by
  unfold inB at h
  simp only [Bool.and_eq_true, decide_eq_true_eq] at h
  exact ⟨x.toNat, by omega, by omega⟩
theorem inB_of {n k : Nat} (h : k < n) : inB n (k : Int) = true := by unfold inB; simp [h]
theorem twoB_iff {n : Nat} {a b : Int} : twoB n a b = true ↔ inB n a = true ∧ inB n b = true ∧ a ≠ b := by unfold twoB; simp [and_assoc]
/-- The kind of a party. -/
def kdA (K : List Zn) (x : Int) : Int := (K.getD x.toNat zn0).x
/-- The error of a stake. -/
def stE (K : List Zn) (s : Stk) : Int := if twoB K.length s.ow s.co = false ∨ kdA K s.co ≠ 2 then 14 else if sg (ratOf s.vt) ≤ 0 then 1 else 0
/-- Whether a kind is wrong. -/
def kE (K : List Zn) : Bool := K.any fun k => decide (k.x ≠ 1) && decide (k.x ≠ 2)
/-- Whether a tie is wrong. -/
def tE (n : Nat) (T : List Ti) : Bool := T.any fun t => !twoB n t.a t.b
/-- The data. -/
def pdOf (K : List Zn) (S : List Stk) : PD := ⟨K.length, fun k => decide ((K.getD k zn0).x = 2), S.length, fun i => (S.getD i stk0).ow.toNat, fun i => (S.getD i stk0).co.toNat, fun i => ratOf (S.getD i stk0).vt⟩
/-- Whether a company has more than all votes. -/
def ovr (P : PD) : Bool := (List.range P.n).any fun k => decide (1 < hQ P (fun _ => true) k P.m)
theorem ovr_iff {P : PD} : ovr P = true ↔ ∃ k, k < P.n ∧ 1 < hQ P (fun _ => true) k P.m := by unfold ovr; simp
/-- The first error of n. -/
def fE (f : Nat → Int) : Nat → Int
  | 0 => 0
  | n + 1 => if fE f n = 0 then f n else fE f n
theorem fE_hit {f : Nat → Int} {i : Nat} (h0 : fE f i = 0) (h1 : f i ≠ 0) : ∀ {n : Nat}, i < n → fE f n = f i
  | 0, hi => absurd hi (by omega)
  | n + 1, hi => by
    simp only [fE]
    by_cases e : i = n
    · subst e; rw [if_pos h0]
    · have ih := fE_hit h0 h1 (n := n) (by omega)
      rw [ih, if_neg h1]
theorem fE_zero {f : Nat → Int} : ∀ {n : Nat}, fE f n = 0 → ∀ i, i < n → f i = 0
  | 0, _, i, hi => absurd hi (by omega)
  | n + 1, h, i, hi => by
    simp only [fE] at h
    by_cases h0 : fE f n = 0
    · rw [if_pos h0] at h
      by_cases e : i = n
      · rw [e]; exact h
      · exact fE_zero h0 i (by omega)
    · rw [if_neg h0] at h; exact absurd h h0
theorem fE_none {f : Nat → Int} : ∀ {n : Nat}, (∀ i, i < n → f i = 0) → fE f n = 0
  | 0, _ => rfl
  | n + 1, h => by
    simp only [fE]
    rw [if_pos (fE_none (fun i hi => h i (by omega))), h n (by omega)]
/-- The error of the stakes. -/
def sE (K : List Zn) (S : List Stk) (i : Nat) : Int := stE K (S.getD i stk0)
/-- The error of parties. -/
def ckP (K : List Zn) (S : List Stk) (T : List Ti) : Int :=
  if 32 < K.length ∨ 64 < S.length ∨ 64 < T.length then 2 else if kE K then 1 else if fE (sE K S) S.length ≠ 0 then fE (sE K S) S.length else if ovr (pdOf K S) then 6 else if tE K.length T then 14 else 0
theorem ck_long {K : List Zn} {S : List Stk} {T : List Ti} (h : 32 < K.length ∨ 64 < S.length ∨ 64 < T.length) : ckP K S T = 2 := by unfold ckP; rw [if_pos h]
theorem ck_kind {K : List Zn} {S : List Stk} {T : List Ti} (h : ¬ (32 < K.length ∨ 64 < S.length ∨ 64 < T.length)) (h2 : kE K = true) : ckP K S T = 1 := by unfold ckP; rw [if_neg h, if_pos h2]
theorem ck_stake {K : List Zn} {S : List Stk} {T : List Ti} (h : ¬ (32 < K.length ∨ 64 < S.length ∨ 64 < T.length)) (h2 : kE K = false) {i : Nat} (hi : i < S.length) (h3 : fE (sE K S) i = 0) (h4 : sE K S i ≠ 0) : ckP K S T = sE K S i := by
  unfold ckP; rw [if_neg h, if_neg (by simp [h2]), fE_hit h3 h4 hi, if_pos h4]
theorem ck_sum {K : List Zn} {S : List Stk} {T : List Ti} (h : ¬ (32 < K.length ∨ 64 < S.length ∨ 64 < T.length)) (h2 : kE K = false) (h3 : fE (sE K S) S.length = 0) (h4 : ovr (pdOf K S) = true) : ckP K S T = 6 := by
  unfold ckP; rw [if_neg h, if_neg (by simp [h2]), if_neg (by simp [h3]), if_pos h4]
theorem ck_tie {K : List Zn} {S : List Stk} {T : List Ti} (h : ¬ (32 < K.length ∨ 64 < S.length ∨ 64 < T.length)) (h2 : kE K = false) (h3 : fE (sE K S) S.length = 0) (h4 : ovr (pdOf K S) = false) : ckP K S T = if tE K.length T then 14 else 0 := by
  unfold ckP; rw [if_neg h, if_neg (by simp [h2]), if_neg (by simp [h3]), if_neg (by simp [h4])]
/-- Valid stakes. -/
structure GoodS (K : List Zn) (S : List Stk) : Prop where
  two : ∀ i, i < S.length → twoB K.length (S.getD i stk0).ow (S.getD i stk0).co = true
  kd : ∀ i, i < S.length → kdA K (S.getD i stk0).co = 2
  ps : ∀ i, i < S.length → 0 < ratOf (S.getD i stk0).vt
theorem sg_le0 {q : Rat} : sg q ≤ 0 ↔ ¬ 0 < q := by
  unfold sg
  by_cases h1 : q < 0
  · rw [if_pos h1]; exact ⟨fun _ h => by grind, fun _ => by decide⟩
  · rw [if_neg h1]
    by_cases h2 : q = 0
    · rw [if_pos h2]; subst h2; exact ⟨fun _ h => absurd h (by decide), fun _ => by decide⟩
    · rw [if_neg h2]; exact ⟨fun h => absurd h (by decide), fun h => absurd (show 0 < q by grind) h⟩
theorem stE_zero {K : List Zn} {s : Stk} (h : stE K s = 0) : twoB K.length s.ow s.co = true ∧ kdA K s.co = 2 ∧ 0 < ratOf s.vt := by
  unfold stE at h
  by_cases h1 : twoB K.length s.ow s.co = false ∨ kdA K s.co ≠ 2
  · rw [if_pos h1] at h; cases h
  · rw [if_neg h1] at h
    by_cases h2 : sg (ratOf s.vt) ≤ 0
    · rw [if_pos h2] at h; cases h
    · simp only [not_or, Bool.not_eq_false, ne_eq, Decidable.not_not] at h1
      exact ⟨h1.1, h1.2, Decidable.not_not.1 fun g => h2 (sg_le0.2 g)⟩
theorem good_of {K : List Zn} {S : List Stk} (h : fE (sE K S) S.length = 0) : GoodS K S :=
  ⟨fun i hi => (stE_zero (fE_zero h i hi)).1, fun i hi => (stE_zero (fE_zero h i hi)).2.1, fun i hi => (stE_zero (fE_zero h i hi)).2.2⟩
theorem GoodS.ok {K : List Zn} {S : List Stk} (h : GoodS K S) : (pdOf K S).Ok := by
  refine ⟨fun i hi => ?_, fun i hi => ?_, fun i hi => ?_, fun i hi => ?_, fun i hi => h.ps i hi⟩
  · have := twoB_iff.1 (h.two i hi)
    obtain ⟨k, e, hk⟩ := inB_nat this.2.1
    show (S.getD i stk0).co.toNat < K.length
    omega
  · have := twoB_iff.1 (h.two i hi)
    obtain ⟨k, e, hk⟩ := inB_nat this.1
    show (S.getD i stk0).ow.toNat < K.length
    omega
  · exact decide_eq_true (h.kd i hi)
  · have := twoB_iff.1 (h.two i hi)
    obtain ⟨k, e, hk⟩ := inB_nat this.1
    obtain ⟨l, e2, hl⟩ := inB_nat this.2.1
    show (S.getD i stk0).ow.toNat ≠ (S.getD i stk0).co.toNat
    have := this.2.2
    omega
/-- Owner and company of a valid stake. -/
theorem GoodS.at_ {K : List Zn} {S : List Stk} (h : GoodS K S) {i : Nat} (hi : i < S.length) : (S.getD i stk0).ow = (((pdOf K S).o i : Nat) : Int) ∧ (S.getD i stk0).co = (((pdOf K S).c i : Nat) : Int) ∧ (pdOf K S).o i < K.length ∧ (pdOf K S).c i < K.length := by
  have := twoB_iff.1 (h.two i hi)
  obtain ⟨k, e, hk⟩ := inB_nat this.1
  obtain ⟨l, e2, hl⟩ := inB_nat this.2.1
  show (S.getD i stk0).ow = (((S.getD i stk0).ow.toNat : Nat) : Int) ∧ (S.getD i stk0).co = (((S.getD i stk0).co.toNat : Nat) : Int) ∧ (S.getD i stk0).ow.toNat < K.length ∧ (S.getD i stk0).co.toNat < K.length
  omega
/-- Votes that can be counted with. -/
structure FitS (S : List Stk) (k : Nat) : Prop where
  pos : 1 ≤ k
  le : k ≤ 1000
  all : ∀ s ∈ S, fits s.vt k
theorem FitS.num {S : List Stk} {k : Nat} (h : FitS S k) {j : Nat} (hj : j < S.length) : Num (S.getD j stk0).vt (ratOf (S.getD j stk0).vt) k :=
  ⟨rfl, h.all _ (memStk hj), h.pos⟩
theorem FitS.bd {S : List Stk} {k : Nat} (h : FitS S k) {j : Nat} (hj : j < S.length) : Bd k (ratOf (S.getD j stk0).vt) := (h.num hj).bd
theorem pos_enc {x : Q3} (h : 0 < ratOf x) : Enc x (ratOf x) := by
  cases hx : okB x
  · rw [bad_rat hx] at h; exact absurd h (by decide)
  · exact ok_enc hx
theorem FitS.val {K : List Zn} {S : List Stk} {k : Nat} (h : FitS S k) (g : GoodS K S) {j : Nat} (hj : j < S.length) : Val (S.getD j stk0).vt ((pdOf K S).q j) k := ⟨pos_enc (g.ps j hj), h.bd hj⟩
/-- The size of what is counted. -/
def ZP (k : Nat) : Nat := k * 65 + 1
theorem Sz.mono {P : PD} {Z Y : Nat} (h : Sz P Z) (hl : Z ≤ Y) : Sz P Y := by
  have e : 256 ^ Z ≤ 256 ^ Y := Nat.pow_le_pow_right (by omega) hl
  exact ⟨fun k i hi => Nat.lt_of_lt_of_le (h.u k i hi) e, fun i hi => Nat.lt_of_lt_of_le (h.v i hi) e, fun X k i hi => Nat.lt_of_lt_of_le (h.h X k i hi) e, fun i hi => Nat.lt_of_lt_of_le (h.d i hi) e, fun i hi => Nat.lt_of_lt_of_le (h.g i hi) e⟩
theorem FitS.sz {K : List Zn} {S : List Stk} {k : Nat} (h : FitS S k) (hm : S.length ≤ 64) : Sz (pdOf K S) (ZP k) := by
  refine (Sz_of (P := pdOf K S) (z := k) (fun i hi => (h.bd hi).2) (fun i hi => (h.bd hi).1) hm).mono ?_
  unfold ZP
  have : k * ((pdOf K S).m + 1) ≤ k * 65 := Nat.mul_le_mul_left _ (by show S.length + 1 ≤ 65; omega)
  omega
theorem ZP_le {k : Nat} (h : k ≤ 1000) : ZP k ≤ 65001 := by unfold ZP; omega
theorem nb_size {n z : Nat} (h : n < 256 ^ z) : (nb n).size ≤ z := Is_size (Is_nb n) z h
theorem nb_zero : nb 0 = ⟨#[]⟩ := (nb_of (Is_zero.2 rfl)).symm
theorem nb_one : nb 1 = ⟨#[1]⟩ := (nb_of (Is_one.2 rfl)).symm
theorem nb_two : nb 2 = ⟨#[2]⟩ := by
  have h : Is (⟨#[2]⟩ : ByteArray) 2 := ⟨rfl, by simp [nolead]⟩
  exact (nb_of h).symm
end Go.Proofs.Ytgdpcpbmjgaliaa
