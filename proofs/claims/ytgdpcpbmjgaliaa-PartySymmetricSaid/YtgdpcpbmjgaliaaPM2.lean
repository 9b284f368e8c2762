/-
  Party: the mathematics of both programs that build the least set.
-/
import Derived.Test.YtgdpcpbmjgaliaaPM
namespace Go.Proofs.Ytgdpcpbmjgaliaa

/-- A function changed at one place. -/
def updB {α : Type} (f : Nat → α) (j : Nat) (v : α) : Nat → α := fun i => if i = j then v else f i
theorem updB_at {α : Type} (f : Nat → α) (j : Nat) (v : α) : updB f j v j = v := if_pos rfl
theorem updB_ne {α : Type} (f : Nat → α) {i j : Nat} (v : α) (h : i ≠ j) : updB f j v i = f i := if_neg h
/-- Between two holders: D the holders that are done, X the set, h the units held, Q the holders to come. -/
structure CInv (P : PD) (a : Nat) (LX D X : Nat → Bool) (h : Nat → Nat) (Q : List Nat) : Prop where
  sub : ∀ k, X k = true → LX k = true
  q : ∀ y, (y = a ∨ X y = true) ↔ (D y = true ∨ y ∈ Q)
  nd : Q.Nodup
  dis : ∀ y, y ∈ Q → D y = false
  held : ∀ k, k ≠ a → X k = false → h k = hN P D k P.m ∧ h k * 2 ≤ Un P k
/-- While holder x is at work: its first i stakes are counted. -/
structure CIn (P : PD) (a : Nat) (LX D X : Nat → Bool) (h : Nat → Nat) (Q : List Nat) (x i : Nat) : Prop where
  sub : ∀ k, X k = true → LX k = true
  q : ∀ y, (y = a ∨ X y = true) ↔ (D y = true ∨ y = x ∨ y ∈ Q)
  nd : Q.Nodup
  dis : ∀ y, y ∈ Q → D y = false ∧ y ≠ x
  dx : D x = false
  held : ∀ k, k ≠ a → X k = false → h k = hN P D k P.m + hN P (fun y => y == x) k i ∧ h k * 2 ≤ Un P k
theorem CInv.start (P : PD) (a : Nat) (LX : Nat → Bool) : CInv P a LX (fun _ => false) (fun _ => false) (fun _ => 0) [a] :=
  ⟨fun _ h => (by cases h), fun y => (by simp), (by simp), fun _ _ => rfl, fun k _ _ => ⟨(hN_none P k _).symm, (by omega)⟩⟩
theorem CInv.enter {P : PD} {a : Nat} {LX D X : Nat → Bool} {h : Nat → Nat} {Q : List Nat} {x : Nat} (H : CInv P a LX D X h (x :: Q)) : CIn P a LX D X h Q x 0 := by
  have hn := List.nodup_cons.1 H.nd
  refine ⟨H.sub, fun y => ?_, hn.2, fun y hy => ⟨H.dis y (List.mem_cons_of_mem _ hy), fun e => hn.1 (e ▸ hy)⟩, H.dis x (List.mem_cons_self ..), fun k h1 h2 => ?_⟩
  · rw [H.q y, List.mem_cons]
  · have := H.held k h1 h2
    simp only [hN]; omega
theorem CIn.leave {P : PD} {a : Nat} {LX D X : Nat → Bool} {h : Nat → Nat} {Q : List Nat} {x : Nat} (H : CIn P a LX D X h Q x P.m) : CInv P a LX (fun y => D y || y == x) X h Q := by
  refine ⟨H.sub, fun y => ?_, H.nd, fun y hy => ?_, fun k h1 h2 => ?_⟩
  · rw [H.q y]; simp [or_assoc]
  · have := H.dis y hy
    simp [this.1, this.2]
  · have := H.held k h1 h2
    rw [hN_or H.dx]; exact this
theorem hN_skip {P : PD} {X : Nat → Bool} {i k : Nat} (h : ¬ (P.c i = k ∧ X (P.o i) = true)) : hN P X k (i + 1) = hN P X k i := by simp only [hN]; rw [if_neg h]; rfl
theorem CIn.other {P : PD} {a : Nat} {LX D X : Nat → Bool} {h : Nat → Nat} {Q : List Nat} {x i : Nat} (H : CIn P a LX D X h Q x i) (ho : P.o i ≠ x ∨ P.c i = a ∨ X (P.c i) = true) : CIn P a LX D X h Q x (i + 1) := by
  refine ⟨H.sub, H.q, H.nd, H.dis, H.dx, fun k h1 h2 => ?_⟩
  rw [hN_skip]
  · exact H.held k h1 h2
  · rintro ⟨e1, e2⟩
    simp only [beq_iff_eq] at e2
    rcases ho with h3 | h3 | h3
    · exact h3 e2
    · exact h1 (by omega)
    · rw [e1, h2] at h3; cases h3
/-- What a company holds behind a further stake. -/
theorem CIn.sum {P : PD} {a : Nat} {LX D X : Nat → Bool} {h : Nat → Nat} {Q : List Nat} {x i c : Nat} (H : CIn P a LX D X h Q x i) (ho : P.o i = x) (hc : P.c i = c) (hca : c ≠ a) (hX : X c = false) :
    h c + Vn P i = hN P D c P.m + hN P (fun y => y == x) c (i + 1) := by
  have h1 := (H.held c hca hX).1
  have h2 : hN P (fun y => y == x) c (i + 1) = hN P (fun y => y == x) c i + Vn P i := by
    simp only [hN]; rw [if_pos ⟨hc, by simp [ho]⟩]
  omega
theorem CIn.same {P : PD} {a : Nat} {LX D X : Nat → Bool} {h : Nat → Nat} {Q : List Nat} {x i c : Nat} (H : CIn P a LX D X h Q x i) (ho : P.o i = x) (hc : P.c i = c) (hca : c ≠ a) (hX : X c = false) (hh : ¬ Un P c < (h c + Vn P i) * 2) :
    CIn P a LX D X (updB h c (h c + Vn P i)) Q x (i + 1) := by
  refine ⟨H.sub, H.q, H.nd, H.dis, H.dx, fun k h1 h2 => ?_⟩
  by_cases e : k = c
  · subst e
    rw [updB_at]
    exact ⟨H.sum ho hc hca hX, by omega⟩
  · rw [updB_ne _ _ e, hN_skip (fun g => e (by omega))]
    exact H.held k h1 h2
theorem CIn.more {P : PD} {a : Nat} {LX D X : Nat → Bool} {h : Nat → Nat} {Q : List Nat} {x i c : Nat} (hp : ∀ i, i < P.m → 0 < P.q i) (hL : Least P a LX) (H : CIn P a LX D X h Q x i) (hi : i < P.m) (hcn : c < P.n) (hcp : P.cp c = true) (ho : P.o i = x) (hc : P.c i = c) (hca : c ≠ a) (hX : X c = false) (hh : Un P c < (h c + Vn P i) * 2) :
    CIn P a LX D (updB X c true) (updB h c (h c + Vn P i)) (Q ++ [c]) x (i + 1) := by
  have hq : ¬ (D c = true ∨ c = x ∨ c ∈ Q) := fun g => by
    rcases (H.q c).2 g with e | e
    · exact hca e
    · rw [hX] at e; cases e
  simp only [not_or, Bool.not_eq_true] at hq
  have hLc : LX c = true := by
    refine hL.cl c hcn (FF_iff.2 ⟨hca, hcp, (hN_half hp (Nat.le_refl _)).1 ?_⟩)
    have h1 := H.sum ho hc hca hX
    have h2 : hN P (fun y => y == x) c (i + 1) ≤ hN P (fun y => y == x) c P.m := hN_up (by omega)
    have h3 := hN_or (P := P) (k := c) (i := P.m) H.dx
    have h4 : hN P (fun y => D y || y == x) c P.m ≤ hN P (fun y => y == a || LX y) c P.m := hN_mono fun y hy => by
      simp only [Bool.or_eq_true, beq_iff_eq] at hy ⊢
      rcases (H.q y).2 (hy.imp id .inl) with e | e
      · exact .inl e
      · exact .inr (H.sub y e)
    omega
  refine ⟨fun k hk => ?_, fun y => ?_, ?_, fun y hy => ?_, H.dx, fun k h1 h2 => ?_⟩
  · by_cases e : k = c
    · rw [e]; exact hLc
    · rw [updB_ne _ _ e] at hk; exact H.sub k hk
  · by_cases e : y = c
    · rw [e, updB_at]; simp
    · rw [updB_ne _ _ e, H.q y]; simp [e]
  · rw [List.nodup_append]
    refine ⟨H.nd, by simp, fun y hy z hz => ?_⟩
    simp at hz
    rw [hz]; rintro rfl
    exact hq.2.2 hy
  · rcases List.mem_append.1 hy with hy | hy
    · exact H.dis y hy
    · simp at hy; rw [hy]; exact ⟨hq.1, hq.2.1⟩
  · by_cases e : k = c
    · rw [e, updB_at] at h2; cases h2
    · rw [updB_ne _ _ e] at h2
      rw [updB_ne _ _ e, hN_skip (fun g => e (by omega))]
      exact H.held k h1 h2
/-- No holder is left: the set is the least one. -/
theorem CInv.done {P : PD} {a : Nat} {LX D X : Nat → Bool} {h : Nat → Nat} (hp : ∀ i, i < P.m → 0 < P.q i) (hL : Least P a LX) (H : CInv P a LX D X h []) : X = LX := by
  refine hL.eq_of H.sub fun k hk hf => ?_
  cases hX : X k
  · exfalso
    rw [FF_iff] at hf
    have h1 := (H.held k hf.1 hX).1
    have h2 := (H.held k hf.1 hX).2
    have h3 := (hN_half hp (Nat.le_refl _)).2 hf.2.2
    have h4 : hN P (fun y => y == a || X y) k P.m ≤ hN P D k P.m := hN_mono fun y hy => by
      simp only [Bool.or_eq_true, beq_iff_eq] at hy
      have := (H.q y).1 hy
      simpa using this
    omega
  · rfl
/-- How many of the numbers below n have the property. -/
def cntB (p : Nat → Bool) : Nat → Nat
  | 0 => 0
  | n + 1 => cntB p n + (if p n then 1 else 0)
theorem cntB_le (p : Nat → Bool) : ∀ n, cntB p n ≤ n
  | 0 => Nat.le_refl _
  | n + 1 => by have := cntB_le p n; simp only [cntB]; split <;> omega
theorem cntB_congr {p q : Nat → Bool} : ∀ {n : Nat}, (∀ k, k < n → p k = q k) → cntB p n = cntB q n
  | 0, _ => rfl
  | n + 1, h => by simp only [cntB]; rw [cntB_congr (n := n) fun k hk => h k (by omega), h n (by omega)]
theorem cntB_upd {p : Nat → Bool} {c : Nat} (hc : p c = false) : ∀ {n : Nat}, c < n → cntB (updB p c true) n = cntB p n + 1
  | 0, h => absurd h (by omega)
  | n + 1, h => by
    simp only [cntB]
    by_cases e : c = n
    · subst e
      rw [updB_at, hc, cntB_congr (n := c) (q := p) fun k hk => updB_ne _ _ (by omega)]; simp
    · rw [cntB_upd hc (n := n) (by omega), updB_ne _ _ (show n ≠ c by omega)]; omega
/-- The reference's set while it grows. -/
structure RInv (P : PD) (a : Nat) (LX : Nat → Bool) (s : List Nat) : Prop where
  sub : ∀ k, k ∈ s → LX k = true
  lt : ∀ k, k ∈ s → k < P.n
  nd : s.Nodup
theorem RInv.nil (P : PD) (a : Nat) (LX : Nat → Bool) : RInv P a LX [] := ⟨fun _ h => (by cases h), fun _ h => (by cases h), (by simp)⟩
theorem nodup_len : ∀ {n : Nat} {s : List Nat}, s.Nodup → (∀ k, k ∈ s → k < n) → s.length ≤ n
  | 0, s, _, h => by
    cases s with
    | nil => exact Nat.le_refl _
    | cons x l => exact absurd (h x (List.mem_cons_self ..)) (by omega)
  | n + 1, s, hn, h => by
    have h1 := nodup_len (n := n) (s := s.erase n) (hn.erase n) fun k hk => by
      have h2 := h k (List.mem_of_mem_erase hk)
      have h3 : k ≠ n := fun e => by rw [e] at hk; exact (List.Nodup.mem_erase_iff hn).1 hk |>.1 rfl
      omega
    have h2 : s.length ≤ (s.erase n).length + 1 := by rw [List.length_erase]; split <;> omega
    omega
theorem RInv.len {P : PD} {a : Nat} {LX : Nat → Bool} {s : List Nat} (h : RInv P a LX s) : s.length ≤ P.n := nodup_len h.nd h.lt
def memB (s : List Nat) (k : Nat) : Bool := decide (k ∈ s)
theorem RInv.add {P : PD} {a c : Nat} {LX : Nat → Bool} {s : List Nat} (hp : ∀ i, i < P.m → 0 < P.q i) (hL : Least P a LX) (h : RInv P a LX s) (hc : c < P.n) (hca : c ≠ a) (hcp : P.cp c = true) (hcs : c ∉ s) (hq : (1 : Rat) / 2 < hQ P (fun x => x == a || memB s x) c P.m) : RInv P a LX (s ++ [c]) := by
  have hLc : LX c = true := hL.cl c hc (FF_mono (X := memB s) hp (fun x hx => h.sub x (of_decide_eq_true hx)) (FF_iff.2 ⟨hca, hcp, hq⟩))
  refine ⟨fun k hk => ?_, fun k hk => ?_, ?_⟩
  · rcases List.mem_append.1 hk with hk | hk
    · exact h.sub k hk
    · simp at hk; rw [hk]; exact hLc
  · rcases List.mem_append.1 hk with hk | hk
    · exact h.lt k hk
    · simp at hk; rw [hk]; exact hc
  · rw [List.nodup_append]
    refine ⟨h.nd, by simp, fun y hy z hz => ?_⟩
    simp at hz
    rw [hz]; rintro rfl
    exact hcs hy
theorem RInv.done {P : PD} {a : Nat} {LX : Nat → Bool} {s : List Nat} (hL : Least P a LX) (h : RInv P a LX s) (hc : ∀ k, k < P.n → FF P a (memB s) k = true → k ∈ s) : memB s = LX :=
  hL.eq_of (fun k hk => h.sub k (of_decide_eq_true hk)) fun k hk hf => decide_eq_true (hc k hk hf)
end Go.Proofs.Ytgdpcpbmjgaliaa
