/-
  Several parts put together: Base, App.
-/
import Derived.Test.YtogciehmdlfkfaaGreatDoorChecked
import Derived.Test.YtogciehmdlfkfaaGreatDoorGA
import Derived.WalkKit
import Derived.WalkSpells
import Derived.WalkLawsBesides
import Derived.LoopTactic
import Derived.Lib.Hide
import Derived.PlainAid
import Derived.BigQuiet
import Derived.Deep.QuietTactic
import Derived.RegionTactic
import Derived.ChangeAlike
import Derived.Outline
import Derived.Deep.CutBlock
import Derived.Deep.DeepCutAuto
import Derived.Lib.MinMax
import Derived.Deep.LoopGhost
/- Part Base. -/

namespace Go.Proofs.YtogciehmdlfkfaaGreatDoor
open Go.RowKit Nd

theorem Tryz.info32 : (Tryz.prog.info? 120).map (fun i => (i.zero, i.size, i.bytes)) = some (some (.int .u32 0), 1, 4) := by kernel_rfl
theorem Tryz.info8 : (Tryz.prog.info? 5).map (fun i => (i.zero, i.size, i.bytes)) = some (some (.int .u8 0), 1, 1) := by kernel_rfl

/-- Numbers as values of an integer kind. -/
def vals (k : IntKind) (xs : List Nat) : List Value := xs.map fun x : Nat => Value.int k (x : Int)
theorem vals_length (k : IntKind) (xs : List Nat) : (vals k xs).length = xs.length := by simp [vals]
theorem vals_get (k : IntKind) (xs : List Nat) (j : Nat) (h : j < xs.length) : (vals k xs)[j]? = some (.int k ((xs.getD j 0 : Nat) : Int)) := by
  simp [vals, h]
theorem vals_set (k : IntKind) (xs : List Nat) (j x : Nat) : (vals k xs).set j (.int k (x : Int)) = vals k (xs.set j x) := by
  simp [vals, List.map_set]
theorem vals_append (k : IntKind) (xs ys : List Nat) : vals k xs ++ vals k ys = vals k (xs ++ ys) := by simp [vals]
theorem vals_replicate (k : IntKind) (n : Nat) : List.replicate n (Value.int k 0) = vals k (List.replicate n 0) := by simp [vals]

/-! ### what has changed: the blocks gs, and what is new -/
structure Chg (gs : List Nat) (w w' : World) : Prop where
  os : w'.os = w.os
  tape : w'.tape = w.tape
  output : w'.output = w.output
  size : w.heap.size ≤ w'.heap.size
  block : ∀ k, k < w.heap.size → k ∉ gs → w'.heap[k]? = w.heap[k]?

theorem Chg.refl (gs : List Nat) (w : World) : Chg gs w w := ⟨rfl, rfl, rfl, Nat.le_refl _, fun _ _ _ => rfl⟩
theorem Chg.trans {gs hs : List Nat} {a b c : World} (h : Chg gs a b) (k : Chg hs b c) (hh : ∀ x, x ∈ hs → x ∈ gs ∨ a.heap.size ≤ x) : Chg gs a c :=
  ⟨k.os.trans h.os, k.tape.trans h.tape, k.output.trans h.output, Nat.le_trans h.size k.size, fun i hi hn => (k.block i (Nat.lt_of_lt_of_le hi h.size) (fun hm => (hh i hm).elim hn (fun h => by omega))).trans (h.block i hi hn)⟩
theorem Chg.then {gs : List Nat} {a b c : World} (h : Chg gs a b) (k : Chg [] b c) : Chg gs a c := h.trans k (fun _ h => by cases h)
theorem Chg.same {gs : List Nat} {a b c : World} (h : Chg gs a b) (k : Chg gs b c) : Chg gs a c := h.trans k (fun _ h => .inl h)
theorem Chg.fresh {gs : List Nat} {g : Nat} {a b c : World} (h : Chg gs a b) (k : Chg [g] b c) (hg : a.heap.size ≤ g) : Chg gs a c := h.trans k (fun x hx => by simp at hx; subst hx; exact .inr hg)
theorem Chg.mono {gs hs : List Nat} {a b : World} (h : Chg gs a b) (k : ∀ x, x ∈ gs → x ∈ hs) : Chg hs a b := ⟨h.os, h.tape, h.output, h.size, fun i hi hn => h.block i hi (fun hm => hn (k i hm))⟩
theorem Chg.of_grown {w w' : World} (h : w.grownBy w' none) : Chg [] w w' := ⟨h.os, h.tape, h.output, h.size, fun k hk _ => h.block k hk (by simp)⟩
theorem Chg.of_grown1 {w w' : World} {g : Nat} (h : w.grownBy w' (some g)) : Chg [g] w w' := ⟨h.os, h.tape, h.output, h.size, fun k hk hn => h.block k hk (by simpa using hn)⟩
theorem Chg.of_grownv {w w' : World} {v : Option Nat} {gs : List Nat} (h : w.grownBy w' v) (hv : ∀ k, v = some k → k ∈ gs) : Chg gs w w' := ⟨h.os, h.tape, h.output, h.size, fun k hk hn => h.block k hk (fun e => hn (hv k e.symm))⟩
theorem Chg.drew {gs : List Nat} {a w : World} (h : Chg gs a w) : Chg gs a w.drew := ⟨h.os, h.tape, h.output, h.size, h.block⟩
theorem Chg.drewN {gs : List Nat} {a w : World} (h : Chg gs a w) (n : Nat) : Chg gs a (w.drewN n) := ⟨h.os, h.tape, h.output, h.size, h.block⟩
theorem Chg.alloc {gs : List Nat} {a w : World} (h : Chg gs a w) (o : Obj) : Chg gs a (w.alloc o) := h.then (Chg.of_grown (World.grownBy_alloc w o none))
theorem Chg.setCell {gs : List Nat} {a w : World} (h : Chg gs a w) {p : Addr} (hp : p.block ∈ gs ∨ a.heap.size ≤ p.block) (u : Value) : Chg gs a (w.setCell p u) :=
  h.trans (hs := [p.block]) ⟨rfl, rfl, rfl, by simp, fun k _ hk => Below.heap_setCell _ _ _ _ (by simpa using hk)⟩ (fun x hx => by simp at hx; subst hx; exact hp)
theorem Chg.below {w w' : World} (h : Chg [] w w') : Below w.heap.size w w' := ⟨h.os, h.tape, h.output, h.size, fun k hk => h.block k hk (by simp)⟩
theorem Chg.cell {gs : List Nat} {w w' : World} (h : Chg gs w w') {p : Addr} (hp : p.block < w.heap.size) (hn : p.block ∉ gs) : w'.cell? p = w.cell? p := World.cell?_of_block (h.block _ hp hn)

/-! ### a row of numbers in memory -/
/-- Block g, of capacity cap, holds the numbers xs (element type e, kind k) from its head on. -/
def Row (e : TypeId) (k : IntKind) (w : World) (g cap : Nat) (xs : List Nat) : Prop :=
  w.ownsRow 0 e 1 (.slice (some ⟨g, 0, none⟩) xs.length cap) xs.length (vals k xs)

section
variable {e : TypeId} {k : IntKind} {w w' : World} {g cap : Nat} {xs : List Nat}
theorem Row.cell (h : Row e k w g cap xs) (j : Nat) (hj : j < xs.length) : w.cell? ⟨g, j, none⟩ = some (.int k ((xs.getD j 0 : Nat) : Int)) := by
  rw [World.ownsRow.cellAt h j (by omega), vals_get k xs j hj]
theorem Row.frozen (h : Row e k w g cap xs) (j : Nat) : w.frozen? ⟨g, j, none⟩ = false := World.ownsRow.frozenAt h j
theorem Row.store (h : Row e k w g cap xs) (j x : Nat) : Row e k (w.setCell ⟨g, j, none⟩ (.int k (x : Int))) g cap (xs.set j x) := by
  have := (World.ownsRow.stored h j (.int k (x : Int))).1
  unfold Row
  rw [vals_set] at this
  simpa using this
theorem Row.lt (h : Row e k w g cap xs) : g < w.heap.size := (World.ownsRow.lt h g rfl).2
theorem Row.keep {gs : List Nat} (h : Row e k w g cap xs) (hc : Chg gs w w') (hg : g ∉ gs) : Row e k w' g cap xs := by
  have hlt := h.lt
  refine ⟨h.1, ?_⟩
  rcases h.2 with hn | ⟨g', cap', cur, hv, hb, hgg, rest⟩
  · simp at hn
  · simp only [Value.slice.injEq, Option.some.injEq, Addr.mk.injEq, and_true, true_and] at hv
    obtain ⟨rfl, rfl⟩ := hv
    exact .inr ⟨g, cap, cur, rfl, hb, (hc.block g hlt hg).trans hgg, rest⟩
theorem Row.drew (h : Row e k w g cap xs) : Row e k w.drew g cap xs := World.ownsRow.drew h
theorem Row.other (h : Row e k w g cap xs) {p : Addr} (hp : g ≠ p.block) (u : Value) : Row e k (w.setCell p u) g cap xs :=
  h.keep (gs := [p.block]) ⟨rfl, rfl, rfl, by simp, fun j _ hj => Below.heap_setCell _ _ _ _ (by simpa using hj)⟩ (by simpa using hp)
theorem Row.fits (h : Row e k w g cap xs) : xs.length ≤ cap ∧ cap ≤ 9223372036854775807 := by
  rcases h.2 with hn | ⟨g', cap', cur, hv, hb, hgg, h1, h2, _⟩
  · simp at hn
  · simp only [Value.slice.injEq, Option.some.injEq, Addr.mk.injEq, and_true, true_and] at hv
    obtain ⟨rfl, rfl⟩ := hv
    exact ⟨h1, by simpa [maxLen] using h2⟩
theorem Row.take (h : Row e k w g cap xs) (n : Nat) (hn : n ≤ xs.length) : Row e k w g cap (xs.take n) := by
  refine ⟨by simp [vals_length], ?_⟩
  have hl : (xs.take n).length = n := by simp; omega
  rcases h.2 with hn | ⟨g', cap', cur, hv, hb, hgg, h1, h2, h3, h4⟩
  · simp at hn
  · simp only [Value.slice.injEq, Option.some.injEq, Addr.mk.injEq, and_true, true_and] at hv
    obtain ⟨rfl, rfl⟩ := hv
    refine .inr ⟨g, cap, cur, rfl, hb, hgg, by omega, h2, h3, ?_⟩
    rw [hl]
    have : vals k (xs.take n) = (vals k xs).take n := by simp [vals, List.map_take]
    rw [this, ← h4, List.take_take]
    congr 1
    omega
theorem Row.of_alloc (w : World) (cs : Array Value) (xs : List Nat) (hc : cs = (vals k xs).toArray) (hm : xs.length ≤ 9223372036854775807) : Row e k (w.alloc (.cells cs e)) w.heap.size xs.length xs := by
  have := World.ownsRow_lit (base := 0) (e := e) (size := 1) w cs xs.length (Nat.zero_le _) (by simpa [maxLen] using hm) (by rw [hc]; simp [vals])
  unfold Row
  rw [hc] at this ⊢
  simpa using this
theorem Row.of_make {n : Nat} (z : Nat) (h : w.ownsRow 0 e 1 (.slice (some ⟨g, 0, none⟩) n cap) n (List.replicate n (.int k (z : Int)))) : Row e k w g cap (List.replicate n z) := by
  unfold Row
  have hv : vals k (List.replicate n z) = List.replicate n (.int k (z : Int)) := by simp [vals]
  rw [hv]; simpa using h
end

theorem or_u64 (a b j : Nat) (hj : j ≤ 64) (ha : a * 2 ^ j < 2 ^ 64) (hb : b < 2 ^ j) : bits .or .u64 ((a * 2 ^ j : Nat) : Int) (b : Int) = ((a * 2 ^ j + b : Nat) : Int) := by
  have hb' : b < 2 ^ 64 := Nat.lt_of_lt_of_le hb (Nat.pow_le_pow_right (by omega) hj)
  have e : a * 2 ^ j ||| b = a * 2 ^ j + b := by rw [Nat.mul_comm]; exact (Nat.two_pow_add_eq_or_of_lt hb a).symm
  have hx : a * 2 ^ j ||| b < 2 ^ 64 := Nat.or_lt_two_pow ha hb'
  have h1 : (BitVec.ofInt 64 ((a * 2 ^ j : Nat) : Int)).toNat = a * 2 ^ j := by
    rw [BitVec.ofInt_natCast, BitVec.toNat_ofNat]; exact Nat.mod_eq_of_lt ha
  have h2 : (BitVec.ofInt 64 (b : Int)).toNat = b := by
    rw [BitVec.ofInt_natCast, BitVec.toNat_ofNat]; exact Nat.mod_eq_of_lt hb'
  show IntKind.u64.wrap ((BitVec.ofInt 64 ((a * 2 ^ j : Nat) : Int) ||| BitVec.ofInt 64 (b : Int)).toNat : Int) = _
  rw [BitVec.toNat_or, h1, h2, IntKind.wrap_u64, ← e]
  omega
theorem or_u64' (a b j : Nat) (hj : j ≤ 64) (ha : a * 2 ^ j < 2 ^ 64) (hb : b < 2 ^ j) : bits .or .u64 (b : Int) ((a * 2 ^ j : Nat) : Int) = ((a * 2 ^ j + b : Nat) : Int) := by
  have hb' : b < 2 ^ 64 := Nat.lt_of_lt_of_le hb (Nat.pow_le_pow_right (by omega) hj)
  have e : b ||| a * 2 ^ j = a * 2 ^ j + b := by rw [Nat.or_comm, Nat.mul_comm]; exact (Nat.two_pow_add_eq_or_of_lt hb a).symm
  have hx : b ||| a * 2 ^ j < 2 ^ 64 := Nat.or_lt_two_pow hb' ha
  have h1 : (BitVec.ofInt 64 ((a * 2 ^ j : Nat) : Int)).toNat = a * 2 ^ j := by
    rw [BitVec.ofInt_natCast, BitVec.toNat_ofNat]; exact Nat.mod_eq_of_lt ha
  have h2 : (BitVec.ofInt 64 (b : Int)).toNat = b := by
    rw [BitVec.ofInt_natCast, BitVec.toNat_ofNat]; exact Nat.mod_eq_of_lt hb'
  show IntKind.u64.wrap ((BitVec.ofInt 64 (b : Int) ||| BitVec.ofInt 64 ((a * 2 ^ j : Nat) : Int)).toNat : Int) = _
  rw [BitVec.toNat_or, h1, h2, IntKind.wrap_u64, ← e]
  omega
theorem or_u32 (a b j : Nat) (hj : j ≤ 32) (ha : a * 2 ^ j < 2 ^ 32) (hb : b < 2 ^ j) : bits .or .u32 ((a * 2 ^ j : Nat) : Int) (b : Int) = ((a * 2 ^ j + b : Nat) : Int) := by
  have hb' : b < 2 ^ 32 := Nat.lt_of_lt_of_le hb (Nat.pow_le_pow_right (by omega) hj)
  have e : a * 2 ^ j ||| b = a * 2 ^ j + b := by rw [Nat.mul_comm]; exact (Nat.two_pow_add_eq_or_of_lt hb a).symm
  have hx : a * 2 ^ j ||| b < 2 ^ 32 := Nat.or_lt_two_pow ha hb'
  have h1 : (BitVec.ofInt 32 ((a * 2 ^ j : Nat) : Int)).toNat = a * 2 ^ j := by
    rw [BitVec.ofInt_natCast, BitVec.toNat_ofNat]; exact Nat.mod_eq_of_lt ha
  have h2 : (BitVec.ofInt 32 (b : Int)).toNat = b := by
    rw [BitVec.ofInt_natCast, BitVec.toNat_ofNat]; exact Nat.mod_eq_of_lt hb'
  show IntKind.u32.wrap ((BitVec.ofInt 32 ((a * 2 ^ j : Nat) : Int) ||| BitVec.ofInt 32 (b : Int)).toNat : Int) = _
  rw [BitVec.toNat_or, h1, h2, IntKind.wrap_u32, ← e]
  omega
theorem or_u32' (a b j : Nat) (hj : j ≤ 32) (ha : a * 2 ^ j < 2 ^ 32) (hb : b < 2 ^ j) : bits .or .u32 (b : Int) ((a * 2 ^ j : Nat) : Int) = ((a * 2 ^ j + b : Nat) : Int) := by
  have hb' : b < 2 ^ 32 := Nat.lt_of_lt_of_le hb (Nat.pow_le_pow_right (by omega) hj)
  have e : b ||| a * 2 ^ j = a * 2 ^ j + b := by rw [Nat.or_comm, Nat.mul_comm]; exact (Nat.two_pow_add_eq_or_of_lt hb a).symm
  have hx : b ||| a * 2 ^ j < 2 ^ 32 := Nat.or_lt_two_pow hb' ha
  have h1 : (BitVec.ofInt 32 ((a * 2 ^ j : Nat) : Int)).toNat = a * 2 ^ j := by
    rw [BitVec.ofInt_natCast, BitVec.toNat_ofNat]; exact Nat.mod_eq_of_lt ha
  have h2 : (BitVec.ofInt 32 (b : Int)).toNat = b := by
    rw [BitVec.ofInt_natCast, BitVec.toNat_ofNat]; exact Nat.mod_eq_of_lt hb'
  show IntKind.u32.wrap ((BitVec.ofInt 32 (b : Int) ||| BitVec.ofInt 32 ((a * 2 ^ j : Nat) : Int)).toNat : Int) = _
  rw [BitVec.toNat_or, h1, h2, IntKind.wrap_u32, ← e]
  omega
/-- 'make([]T, n, c)'. -/
theorem wpList_make_cap {P : Program} (w : World) {ops : Array Oper} {rest : List Oper} {o : Oper} {a : Act} {Q : Exit → Act → World → Prop}
    (hg : o.guard = none) (l c : Operand) (t : TypeId) (hop : o.op = Op.makeSlice t l c)
    (e : TypeId) (i : TypeInfo) (k : IntKind) (h1 : P.underlying t = some (.slice e)) (h2 : P.info? e = some i) (h3 : i.zero = some (.int k 0)) (h4 : i.size = 1)
    (kl kc : IntKind) (L C : Int) (n m : Nat) (hl : a.eval l = .int kl L) (hc : a.eval c = .int kc C) (hL : L = (n : Int)) (hC : C = (m : Int)) (hnm : n ≤ m) (b2 : i.bytes * m ≤ 281474976710656) (b3 : m ≤ 9223372036854775807)
    (hK : ∀ w', Row e k w' w.heap.size m (List.replicate n 0) → Chg [] w w' → wpList P ops Q rest (a.put o.dst (.slice (some ⟨w.heap.size, 0, none⟩) n m)) w') :
    wpList P ops Q (o :: rest) a w := by
  refine wpList_plain hg fun K hK' => ?_
  subst hL
  subst hC
  have hb : (i.bytes : Int) * (m : Int) ≤ 281474976710656 := by
    have h : ((i.bytes * m : Nat) : Int) ≤ 281474976710656 := by omega
    rwa [Int.natCast_mul] at h
  have hrun := run_make (P := P) w t e i (.int k 0) h1 h2 h3 kl kc n m (by omega) (by omega) hb (by omega)
  unfold Oper.wp
  simp [execOp, hop, hl, hc, hrun, Result.andThen]
  refine hK' _ _ (hK _ ?_ ((Chg.refl _ _).alloc _))
  have hown : (w.alloc (.cells (madeCells (Value.int k 0).cells (m * i.size)) e)).ownsRow 0 e 1 (.slice (some ⟨w.heap.size, 0, none⟩) m m) m (madeCells (Value.int k 0).cells (m * i.size)).toList :=
    World.ownsRow_lit w _ m (Nat.zero_le _) (by simpa [maxLen] using b3) (by rw [size_madeCells, h4])
  have hr : Row e k (w.alloc (.cells (madeCells (Value.int k 0).cells (m * i.size)) e)) w.heap.size m (List.replicate m 0) := by
    refine Row.of_make 0 ?_
    have : (madeCells (Value.int k 0).cells (m * i.size)).toList = List.replicate m (.int k (0 : Int)) := by rw [h4, Nat.mul_one]; exact toList_madeCells_one _ _
    rw [this] at hown
    simpa using hown
  have := hr.take n (by simpa using hnm)
  rwa [List.take_replicate, Nat.min_eq_left hnm] at this

theorem name_it {α : Type} (a : α) : ∃ x, Hid (a = x) := ⟨a, rfl⟩
theorem ret_eq {u v : Value} (h : u = v) : Ending.returned u = Ending.returned v := by rw [h]
theorem byte_get (s : ByteArray) (k : Nat) (h : k < s.size) : s.data.toList[k]? = some s[k] := by
  have h' : k < s.data.toList.length := by simpa using h
  rw [List.getElem?_eq_getElem h']; rfl
theorem byte_none (s : ByteArray) (k : Nat) (h : s.size ≤ k) : s.data.toList[k]? = none := List.getElem?_eq_none (by simpa using h)
theorem byte_zero {x : UInt8} : ((x.toNat : Int) == 0) = true ↔ x = 0 := by
  rw [beq_iff_eq]
  constructor
  · intro h; exact UInt8.toNat_inj.1 (by simpa using h)
  · rintro rfl; rfl
def lenOf : Value → Nat | .slice _ n _ => n | _ => 0

end Go.Proofs.YtogciehmdlfkfaaGreatDoor

/- Part App. -/

namespace Go.Proofs.YtogciehmdlfkfaaGreatDoor
open Go.RowKit Nd

section
variable {P : Program} (w : World)

theorem Row.shape {e : TypeId} {k : IntKind} {v : Value} {n : Nat} {xs : List Nat} (hn : xs.length = n) (h : w.ownsRow 0 e 1 v n (vals k xs)) (hv : v ≠ .slice none 0 0) :
    ∃ g cap, v = .slice (some ⟨g, 0, none⟩) xs.length cap ∧ Row e k w g cap xs := by
  subst hn
  rcases h.2 with ⟨h1, _⟩ | ⟨g, cap, cur, h1, _⟩
  · exact absurd h1 hv
  · subst h1
    exact ⟨g, cap, rfl, h⟩

theorem run_append_row (t ty e : TypeId) (i : TypeInfo) (k : IntKind) (ht : P.underlying t = some (.slice e)) (hi : P.info? e = some i) (hz : i.zero = some (.int k 0)) (hsize : i.size = 1) (hby : i.bytes ≤ 8)
    (g cap : Nat) (xs news : List Nat) (hr : Row e k w g cap xs) (a : Addr) (c : Nat) (hnews : ∀ j u, (vals k news)[j]? = some u → w.cell? (a.add j) = some u) (hb : xs.length + news.length ≤ 17592186044416) :
    ∃ g' cap' w', (Builtin.append_ #[t, t] ty #[.slice (some ⟨g, 0, none⟩) xs.length cap, .slice (some a) news.length c]).run P w = .ok (.slice (some ⟨g', 0, none⟩) (xs ++ news).length cap') w' ∧
      Row e k w' g' cap' (xs ++ news) ∧ (g' = g ∨ w.heap.size ≤ g') ∧ Chg [g] w w' := by
  have h1 : ∀ u ∈ vals k news, u.oneCell' = true := by
    intro u hu
    obtain ⟨_, _, rfl⟩ := List.mem_map.1 hu
    rfl
  have hlen : (xs ++ news).length = xs.length + news.length := List.length_append
  by_cases hroom : xs.length + news.length ≤ cap
  · obtain ⟨w', hrun, ho, hg⟩ := run_append_fits (P := P) w 0 t ty e i 1 ht hi hsize g xs.length cap (vals k xs) hr a news.length c (vals k news) (by simp [vals_length]) hnews h1 hroom
    refine ⟨g, cap, w', by rw [hlen]; exact hrun, ?_, .inl rfl, Chg.of_grown1 hg⟩
    unfold Row
    rw [hlen, ← vals_append]
    exact ho
  · have hbb : (xs.length + news.length) * i.bytes ≤ 140737488355328 := by
      have : (xs.length + news.length) * i.bytes ≤ 17592186044416 * 8 := Nat.mul_le_mul hb hby
      omega
    obtain ⟨v', w', hrun, ho, hg, hnil⟩ := run_append_own (P := P) w 0 t ty e i (.int k 0) 1 i.bytes ht hi hz hsize rfl rfl (by omega) (.slice (some ⟨g, 0, none⟩) xs.length cap) xs.length (vals k xs) hr a news.length c (vals k news) (by simp [vals_length]) hnews h1
      (by simp only [maxLen]; omega) hbb (Nat.zero_le _)
    have hcells : ∀ j u, (vals k xs)[j]? = some u → w.cell? ((⟨g, 0, none⟩ : Addr).add j) = some u := World.ownsRow.cells hr rfl
    have hex := run_append_grow (P := P) w t ty e i (.int k 0) ht hi hz ⟨g, 0, none⟩ xs.length cap (vals k xs) (by rw [hsize]; simp [vals_length]) hcells a news.length c (vals k news) (by rw [hsize]; simp [vals_length]) hnews (by omega) (by omega)
      (growslice_fits (by omega) hbb)
    rw [hex] at hrun
    injection hrun with hv hw
    subst hv
    rw [vals_append] at ho
    have : Row e k w' w.heap.size (grownCap w (xs.length + news.length) cap e) (xs ++ news) := by
      unfold Row; rw [hlen]; exact ho
    exact ⟨w.heap.size, _, w', by rw [hlen, hex, hw], this, .inr (Nat.le_refl _), Chg.of_grown1 hg⟩

theorem run_append_rownil (t ty e : TypeId) (i : TypeInfo) (k : IntKind) (ht : P.underlying t = some (.slice e)) (hi : P.info? e = some i) (hz : i.zero = some (.int k 0)) (hsize : i.size = 1) (hby : i.bytes ≤ 8)
    (news : List Nat) (hne : news ≠ []) (a : Addr) (c : Nat) (hnews : ∀ j u, (vals k news)[j]? = some u → w.cell? (a.add j) = some u) (hb : news.length ≤ 17592186044416) :
    ∃ g' cap' w', (Builtin.append_ #[t, t] ty #[.slice none 0 0, .slice (some a) news.length c]).run P w = .ok (.slice (some ⟨g', 0, none⟩) news.length cap') w' ∧
      Row e k w' g' cap' news ∧ w.heap.size ≤ g' ∧ Chg [] w w' := by
  have h1 : ∀ u ∈ vals k news, u.oneCell' = true := by
    intro u hu
    obtain ⟨_, _, rfl⟩ := List.mem_map.1 hu
    rfl
  have hpos : 0 < news.length := by cases news with | nil => exact absurd rfl hne | cons => simp
  have hbb : (0 + news.length) * i.bytes ≤ 140737488355328 := by
    have : (0 + news.length) * i.bytes ≤ 17592186044416 * 8 := Nat.mul_le_mul (by omega) hby
    omega
  obtain ⟨v', w', hrun, ho, hg, hnil⟩ := run_append_own (P := P) w w.heap.size t ty e i (.int k 0) 1 i.bytes ht hi hz hsize rfl rfl (by omega) (.slice none 0 0) 0 [] (World.ownsRow_nil _ _ _ _) a news.length c (vals k news) (by simp [vals_length]) hnews h1
    (by simp only [maxLen]; omega) hbb (Nat.le_refl _)
  rw [Nat.zero_add, List.nil_append] at ho
  rcases ho.2 with ⟨h2, _⟩ | ⟨g, cap, cur, rfl, hge, rest⟩
  · have := (hnil.1 h2).2; omega
  · refine ⟨g, cap, w', hrun, ⟨ho.1, .inr ⟨g, cap, cur, rfl, Nat.zero_le _, rest⟩⟩, hge, Chg.of_grownv hg (by simp [Value.ownBlock])⟩

theorem wpList_append_row {ops : Array Oper} {rest : List Oper} {o : Oper} {a : Act} {Q : Exit → Act → World → Prop} (hgd : o.guard = none) (s x : Operand) (t : TypeId)
    (ho : o.op = .call { callee := .builtin .append, args := #[s, x], argTypes := #[t, t] })
    (e : TypeId) (i : TypeInfo) (k : IntKind) (ht : P.underlying t = some (.slice e)) (hi : P.info? e = some i) (hz : i.zero = some (.int k 0)) (hsize : i.size = 1) (hby : i.bytes ≤ 8)
    (g cap : Nat) (xs : List Nat) (n : Nat) (hn : xs.length = n) (hs : a.eval s = .slice (some ⟨g, 0, none⟩) n cap) (hr : Row e k w g cap xs) (news : List Nat) (m : Nat) (hm : news.length = m) (ad : Addr) (c : Nat) (hx : a.eval x = .slice (some ad) m c)
    (hnews : ∀ j u, (vals k news)[j]? = some u → w.cell? (ad.add j) = some u) (hb : n + m ≤ 17592186044416)
    (h : ∀ g' cap' w', Row e k w' g' cap' (xs ++ news) → (g' = g ∨ w.heap.size ≤ g') → Chg [g] w w' → wpList P ops Q rest (a.put o.dst (.slice (some ⟨g', 0, none⟩) (n + m) cap')) w') : wpList P ops Q (o :: rest) a w := by
  refine wpList_plain hgd fun _ hK => ?_
  subst hn
  subst hm
  obtain ⟨g', cap', w', hrun, h2, h3, h4⟩ := run_append_row (P := P) w t o.type e i k ht hi hz hsize hby g cap xs news hr ad c hnews hb
  rw [List.length_append] at hrun
  unfold Oper.wp execOp
  simp only [ho, resolve, invoke, builtin, Sem.run_bind, Sem.run_pure, Result.andThen_ok, List.map_toArray, List.map_cons, List.map_nil, hs, hx, hrun]
  exact hK _ _ (h g' cap' w' h2 h3 h4)

theorem wpList_append_rownil {ops : Array Oper} {rest : List Oper} {o : Oper} {a : Act} {Q : Exit → Act → World → Prop} (hgd : o.guard = none) (s x : Operand) (t : TypeId)
    (ho : o.op = .call { callee := .builtin .append, args := #[s, x], argTypes := #[t, t] })
    (e : TypeId) (i : TypeInfo) (k : IntKind) (ht : P.underlying t = some (.slice e)) (hi : P.info? e = some i) (hz : i.zero = some (.int k 0)) (hsize : i.size = 1) (hby : i.bytes ≤ 8)
    (hs : a.eval s = .slice none 0 0) (news : List Nat) (hne : news ≠ []) (m : Nat) (hm : news.length = m) (ad : Addr) (c : Nat) (hx : a.eval x = .slice (some ad) m c)
    (hnews : ∀ j u, (vals k news)[j]? = some u → w.cell? (ad.add j) = some u) (hb : m ≤ 17592186044416)
    (h : ∀ g' cap' w', Row e k w' g' cap' news → w.heap.size ≤ g' → Chg [] w w' → wpList P ops Q rest (a.put o.dst (.slice (some ⟨g', 0, none⟩) m cap')) w') : wpList P ops Q (o :: rest) a w := by
  refine wpList_plain hgd fun _ hK => ?_
  subst hm
  obtain ⟨g', cap', w', hrun, h2, h3, h4⟩ := run_append_rownil (P := P) w t o.type e i k ht hi hz hsize hby news hne ad c hnews hb
  unfold Oper.wp execOp
  simp only [ho, resolve, invoke, builtin, Sem.run_bind, Sem.run_pure, Result.andThen_ok, List.map_toArray, List.map_cons, List.map_nil, hs, hx, hrun]
  exact hK _ _ (h g' cap' w' h2 h3 h4)
end

/-- The cells of a block that has just been laid with numbers. -/
theorem cells_alloc (w : World) (cs : Array Value) (e : TypeId) (k : IntKind) (xs : List Nat) (hc : cs = (vals k xs).toArray) (hm : xs.length ≤ 9223372036854775807) :
    ∀ j u, (vals k xs)[j]? = some u → (w.alloc (.cells cs e)).cell? ((⟨w.heap.size, 0, none⟩ : Addr).add j) = some u :=
  World.ownsRow.cells (Row.of_alloc (e := e) w cs xs hc hm) rfl

end Go.Proofs.YtogciehmdlfkfaaGreatDoor
