/-
  Party: the mathematics of built parties.
-/
import Derived.Test.YtgdpcpbmjgaliaaV21
import Derived.Test.YtgdpcpbmjgaliaaPL1
namespace Go.Proofs.Ytgdpcpbmjgaliaa
section
open Go.RowKit Nd

structure T3 where
  a : Int
  b : Int
  c : Int
def t30 : T3 := ⟨0, 0, 0⟩
/-- The numbers are of their kind. -/
structure InT3 (x : T3) : Prop where
  a1 : 0 ≤ x.a
  a2 : x.a ≤ 65535
  b1 : 0 ≤ x.b
  b2 : x.b ≤ 65535
  c1 : 0 ≤ x.c
  c2 : x.c ≤ 65535
structure CT3 (w : World) (g o : Nat) (s : T3) : Prop where
  c0 : w.cell? ⟨g, o, none⟩ = some (.int .u16 s.a)
  c1 : w.cell? ⟨g, o + 1, none⟩ = some (.int .u16 s.b)
  c2 : w.cell? ⟨g, o + 2, none⟩ = some (.int .u16 s.c)
  l : g < w.heap.size
theorem CT3.keep {gs : List Nat} {w w' : World} {g o : Nat} {s : T3} (h : CT3 w g o s) (hc : Chg gs w w') (hg : g ∉ gs) : CT3 w' g o s :=
  ⟨(hc.cell (p := ⟨g, _, none⟩) h.l hg).trans h.c0, (hc.cell (p := ⟨g, _, none⟩) h.l hg).trans h.c1, (hc.cell (p := ⟨g, _, none⟩) h.l hg).trans h.c2, Nat.lt_of_lt_of_le h.l hc.size⟩
theorem CT3.keep0 {w w' : World} {g o : Nat} {s : T3} (h : CT3 w g o s) (hc : Chg [] w w') : CT3 w' g o s := h.keep hc (by simp)
def ST3 (w : World) (A : Option Addr) (xs : List T3) : Prop :=
  0 < xs.length → ∃ g o, A = some ⟨g, o, none⟩ ∧ g < w.heap.size ∧ ∀ j, j < xs.length → CT3 w g (o + j * 3) (xs.getD j t30)
theorem ST3.nil (w : World) (A : Option Addr) : ST3 w A [] := fun h => absurd h (by simp)
theorem ST3.keep {gs : List Nat} {w w' : World} {A : Option Addr} {xs : List T3} (h : ST3 w A xs) (hc : Chg gs w w') (hg : Off gs A) : ST3 w' A xs := by
  intro hl
  obtain ⟨g, o, rfl, hlt, hcell⟩ := h hl
  exact ⟨g, o, rfl, Nat.lt_of_lt_of_le hlt hc.size, fun j hj => (hcell j hj).keep hc (hg _ rfl)⟩
theorem ST3.keep0 {w w' : World} {A : Option Addr} {xs : List T3} (h : ST3 w A xs) (hc : Chg [] w w') : ST3 w' A xs := h.keep hc (Off.nil A)
theorem ST3.keepL {gs : List Nat} {w w' : World} {A : Option Addr} {xs : List T3} {N : Nat} (h : ST3 w A xs) (hlow : 0 < xs.length → ∃ g o, A = some ⟨g, o, none⟩ ∧ g < N) (hc : Chg gs w w') (hg : ∀ x ∈ gs, N ≤ x) : ST3 w' A xs := by
  intro hl
  obtain ⟨g, o, e, hlt⟩ := hlow hl
  exact h.keep hc (by intro a ha hm; rw [e] at ha; cases ha; have := hg _ hm; dsimp only at this; omega) hl
theorem ST3.form {w : World} {A : Option Addr} {xs : List T3} (h : ST3 w A xs) (hl : 0 < xs.length) : ∃ g o, A = some ⟨g, o, none⟩ ∧ g < w.heap.size := by
  obtain ⟨g, o, e, hlt, _⟩ := h hl
  exact ⟨g, o, e, hlt⟩
theorem ST3.at_ {w : World} {g o : Nat} {xs : List T3} (h : ST3 w (some ⟨g, o, none⟩) xs) {j : Nat} (hj : j < xs.length) : CT3 w g (o + j * 3) (xs.getD j t30) := by
  obtain ⟨g', o', he, hlt, hcell⟩ := h (by omega)
  simp only [Option.some.injEq, Addr.mk.injEq, and_true] at he
  obtain ⟨rfl, rfl⟩ := he
  exact hcell j hj
theorem memT3 {l : List T3} {j : Nat} (h : j < l.length) : l.getD j t30 ∈ l := by
  rw [List.getD_eq_getElem?_getD, List.getElem?_eq_getElem h, Option.getD_some]; exact List.getElem_mem _
end

section
open Go.RowKit Nd

structure T2 where
  a : Int
  b : Int
def t20 : T2 := ⟨0, 0⟩
/-- The numbers are of their kind. -/
structure InT2 (x : T2) : Prop where
  a1 : 0 ≤ x.a
  a2 : x.a ≤ 65535
  b1 : 0 ≤ x.b
  b2 : x.b ≤ 65535
structure CT2 (w : World) (g o : Nat) (s : T2) : Prop where
  c0 : w.cell? ⟨g, o, none⟩ = some (.int .u16 s.a)
  c1 : w.cell? ⟨g, o + 1, none⟩ = some (.int .u16 s.b)
  l : g < w.heap.size
theorem CT2.keep {gs : List Nat} {w w' : World} {g o : Nat} {s : T2} (h : CT2 w g o s) (hc : Chg gs w w') (hg : g ∉ gs) : CT2 w' g o s :=
  ⟨(hc.cell (p := ⟨g, _, none⟩) h.l hg).trans h.c0, (hc.cell (p := ⟨g, _, none⟩) h.l hg).trans h.c1, Nat.lt_of_lt_of_le h.l hc.size⟩
theorem CT2.keep0 {w w' : World} {g o : Nat} {s : T2} (h : CT2 w g o s) (hc : Chg [] w w') : CT2 w' g o s := h.keep hc (by simp)
def ST2 (w : World) (A : Option Addr) (xs : List T2) : Prop :=
  0 < xs.length → ∃ g o, A = some ⟨g, o, none⟩ ∧ g < w.heap.size ∧ ∀ j, j < xs.length → CT2 w g (o + j * 2) (xs.getD j t20)
theorem ST2.nil (w : World) (A : Option Addr) : ST2 w A [] := fun h => absurd h (by simp)
theorem ST2.keep {gs : List Nat} {w w' : World} {A : Option Addr} {xs : List T2} (h : ST2 w A xs) (hc : Chg gs w w') (hg : Off gs A) : ST2 w' A xs := by
  intro hl
  obtain ⟨g, o, rfl, hlt, hcell⟩ := h hl
  exact ⟨g, o, rfl, Nat.lt_of_lt_of_le hlt hc.size, fun j hj => (hcell j hj).keep hc (hg _ rfl)⟩
theorem ST2.keep0 {w w' : World} {A : Option Addr} {xs : List T2} (h : ST2 w A xs) (hc : Chg [] w w') : ST2 w' A xs := h.keep hc (Off.nil A)
theorem ST2.keepL {gs : List Nat} {w w' : World} {A : Option Addr} {xs : List T2} {N : Nat} (h : ST2 w A xs) (hlow : 0 < xs.length → ∃ g o, A = some ⟨g, o, none⟩ ∧ g < N) (hc : Chg gs w w') (hg : ∀ x ∈ gs, N ≤ x) : ST2 w' A xs := by
  intro hl
  obtain ⟨g, o, e, hlt⟩ := hlow hl
  exact h.keep hc (by intro a ha hm; rw [e] at ha; cases ha; have := hg _ hm; dsimp only at this; omega) hl
theorem ST2.form {w : World} {A : Option Addr} {xs : List T2} (h : ST2 w A xs) (hl : 0 < xs.length) : ∃ g o, A = some ⟨g, o, none⟩ ∧ g < w.heap.size := by
  obtain ⟨g, o, e, hlt, _⟩ := h hl
  exact ⟨g, o, e, hlt⟩
theorem ST2.at_ {w : World} {g o : Nat} {xs : List T2} (h : ST2 w (some ⟨g, o, none⟩) xs) {j : Nat} (hj : j < xs.length) : CT2 w g (o + j * 2) (xs.getD j t20) := by
  obtain ⟨g', o', he, hlt, hcell⟩ := h (by omega)
  simp only [Option.some.injEq, Addr.mk.injEq, and_true] at he
  obtain ⟨rfl, rfl⟩ := he
  exact hcell j hj
theorem memT2 {l : List T2} {j : Nat} (h : j < l.length) : l.getD j t20 ∈ l := by
  rw [List.getD_eq_getElem?_getD, List.getElem?_eq_getElem h, Option.getD_some]; exact List.getElem_mem _
end

section
open Go.RowKit Nd

theorem snoc_getStk2 {S : List Stk} {s : Stk} {j : Nat} (h : j < S.length) : (S ++ [s]).getD j stk0 = S.getD j stk0 := by rw [snoc_getStk, if_pos h]
theorem snoc_lastStk (S : List Stk) (s : Stk) : (S ++ [s]).getD S.length stk0 = s := by rw [snoc_getStk, if_neg (by omega), if_pos rfl]
theorem pd_snoc {K : List Zn} {S : List Stk} {s : Stk} {X : Nat → Bool} {c : Nat} : ∀ {i : Nat}, i ≤ S.length → hQ (pdOf K (S ++ [s])) X c i = hQ (pdOf K S) X c i
  | 0, _ => rfl
  | i + 1, hi => by
    have h1 := pd_snoc (K := K) (S := S) (s := s) (X := X) (c := c) (i := i) (by omega)
    simp only [hQ]
    rw [h1]
    show _ + (if ((S ++ [s]).getD i stk0).co.toNat = c ∧ X ((S ++ [s]).getD i stk0).ow.toNat = true then ratOf ((S ++ [s]).getD i stk0).vt else 0) = _
    rw [snoc_getStk2 (by omega)]; rfl
/-- Stakes that are built: v tenths each; sm the tenths in each company. -/
structure BltS (K : List Zn) (S : List Stk) (sm : Nat → Nat) : Prop where
  gs : GoodS K S
  ft : FitS S 8
  sum : ∀ c, hQ (pdOf K S) (fun _ => true) c S.length = (sm c : Rat) / 10
  le : ∀ c, sm c ≤ 10
theorem BltS.nil (K : List Zn) : BltS K [] (fun _ => 0) :=
  ⟨⟨fun i h => absurd h (by simp), fun i h => absurd h (by simp), fun i h => absurd h (by simp)⟩, ⟨by omega, by omega, fun _ h => by cases h⟩, fun c => by show (0 : Rat) = _; decide +kernel, fun _ => by omega⟩
theorem BltS.add {K : List Zn} {S : List Stk} {sm : Nat → Nat} (h : BltS K S sm) {a c v : Nat} {z : Q3} (ha : a < K.length) (hc : c < K.length) (hac : (a : Int) ≠ (c : Int)) (hk : (K.getD c zn0).x = 2) (hv : 1 ≤ v) (hz : Val z ((v : Rat) / 10) 8) (hs : sm c + v ≤ 10) :
    BltS K (S ++ [⟨a, c, z⟩]) (updB sm c (sm c + v)) := by
  have hl : (S ++ [(⟨a, c, z⟩ : Stk)]).length = S.length + 1 := by simp
  have hvp : (0 : Rat) < (v : Rat) / 10 := by
    have : (0 : Rat) < (v : Rat) := Rat.natCast_pos.2 (by omega)
    grind
  refine ⟨⟨fun i hi => ?_, fun i hi => ?_, fun i hi => ?_⟩, ⟨by omega, by omega, fun s hs => ?_⟩, fun d => ?_, fun d => ?_⟩
  · rw [hl] at hi
    by_cases e : i < S.length
    · rw [snoc_getStk2 e]; exact h.gs.two i e
    · obtain rfl : i = S.length := by omega
      rw [snoc_lastStk]
      exact twoB_iff.2 ⟨inB_of ha, inB_of hc, hac⟩
  · rw [hl] at hi
    by_cases e : i < S.length
    · rw [snoc_getStk2 e]; exact h.gs.kd i e
    · obtain rfl : i = S.length := by omega
      rw [snoc_lastStk]
      show (K.getD ((c : Int).toNat) zn0).x = 2
      rw [Int.toNat_natCast]; exact hk
  · rw [hl] at hi
    by_cases e : i < S.length
    · rw [snoc_getStk2 e]; exact h.gs.ps i e
    · obtain rfl : i = S.length := by omega
      rw [snoc_lastStk]
      show 0 < ratOf z
      rw [hz.enc.rat]; exact hvp
  · rcases List.mem_append.1 hs with hs | hs
    · exact h.ft.all s hs
    · simp at hs; rw [hs]; exact hz.num.fit
  · rw [hl]
    show hQ (pdOf K (S ++ [(⟨a, c, z⟩ : Stk)])) (fun _ => true) d S.length + (if ((S ++ [(⟨a, c, z⟩ : Stk)]).getD S.length stk0).co.toNat = d ∧ true = true then ratOf ((S ++ [(⟨a, c, z⟩ : Stk)]).getD S.length stk0).vt else 0) = _
    rw [pd_snoc (Nat.le_refl _), h.sum d, snoc_lastStk]
    show _ + (if ((c : Int).toNat) = d ∧ true = true then ratOf z else 0) = _
    rw [Int.toNat_natCast, hz.enc.rat]
    by_cases e : c = d
    · subst e
      rw [if_pos ⟨rfl, rfl⟩, updB_at, Rat.natCast_add]; grind
    · rw [if_neg (fun g => e g.1), updB_ne _ _ (fun g => e g.symm)]; grind
  · by_cases e : d = c
    · rw [e, updB_at]; exact hs
    · rw [updB_ne _ _ e]; exact h.le d
theorem BltS.ck {K : List Zn} {S : List Stk} {T : List Ti} {sm : Nat → Nat} (h : BltS K S sm) (h1 : K.length ≤ 32) (h2 : S.length ≤ 64) (h3 : T.length ≤ 64) (h4 : ∀ k ∈ K, k.x = 1 ∨ k.x = 2) (h5 : tE K.length T = false) : ckP K S T = 0 := by
  have hk : kE K = false := by
    unfold kE
    rw [List.any_eq_false]
    intro x hx
    rcases h4 x hx with e | e <;> simp [e]
  have hf : fE (sE K S) S.length = 0 := fE_none fun i hi => by
    unfold sE stE
    rw [if_neg (by rw [h.gs.two i hi, h.gs.kd i hi]; simp), if_neg (fun g => sg_le0.1 g (h.gs.ps i hi))]
  have ho : ovr (pdOf K S) = false := by
    cases ho : ovr (pdOf K S)
    · rfl
    · obtain ⟨k, _, hk⟩ := ovr_iff.1 ho
      have hm : (pdOf K S).m = S.length := rfl
      rw [hm, h.sum k] at hk
      have h6 : (sm k : Rat) ≤ ((10 : Nat) : Rat) := Rat.natCast_le_natCast.2 (h.le k)
      have h7 : ((10 : Nat) : Rat) = 10 := rfl
      grind
  rw [ck_tie (by omega) hk hf ho, h5]; rfl
theorem tE_snoc {n : Nat} {T : List Ti} {t : Ti} (h : tE n T = false) (h2 : twoB n t.a t.b = true) : tE n (T ++ [t]) = false := by
  unfold tE at h ⊢
  rw [List.any_append, h]; simp [h2]
/-- Valid parties. -/
structure GoodP (p : PV) : Prop where
  ck : ckP p.K p.S p.T = 0
  ft : FitS p.S 8
  n2 : 2 ≤ p.n
  n7 : p.n ≤ 7
  m20 : p.m ≤ 20
  t6 : p.t ≤ 6
  cS : p.m ≤ p.cS
  cS2 : p.cS ≤ 9223372036854775807
end
end Go.Proofs.Ytgdpcpbmjgaliaa
