/-
  Slices of ints and of bytes as arguments: opened; arguments that are only read, read again behind the call.
-/
import Derived.Test.YtfmbekdhkilflaaRows
import Derived.Test.YtfmbekdhkilflaaC8
import Derived.Deep.Slices
import Derived.ReadAgain
import Derived.PinnedBridge
import Derived.ChangeSlices
import Derived.ProofKit
namespace Go.Proofs.Ytfmbekdhkilflaa
open Go.RowKit
open Go.ChangeShapes (open_ints)

theorem own : ownKnob Try.prog.godebug = none := by kernel_rfl
theorem Try.kids : Kids Try.prog (· < Try.prog.types.size) := kids_rows (by kernel_rfl) (by kernel_rfl)
theorem Try.full : ∀ t e, t < Try.prog.types.size → Try.prog.underlying t = some (.slice e) → 0 < Try.prog.cellsOf e := slices_full_of Try.prog (by kernel_rfl)
theorem cellsInt : Try.prog.cellsOf 3 = 1 := by kernel_rfl
theorem cellsByte : Try.prog.cellsOf 5 = 1 := by kernel_rfl

section
variable {H : Type} {enc : TypeId × Value → H} {w w' : World} {base : Nat} {spare : Nat → Bool} {held : Bool}

theorem trod_carry_all {P : Program} : ∀ {ts : List TypeId} {vs : List Value} {ds : List (DataW H)} {ps : List MemPlace},
    DataW.TrodAll enc P w base spare held ts vs ds ps → (∀ p ∈ ps, w.sameAt w' p) → DataW.TrodAll enc P w' base spare held ts vs ds ps
  | [], [], [], _, h, _ => h
  | _ :: _, _ :: _, _ :: _, _, ⟨p, q, ⟨n, h1⟩, h2, e⟩, hs =>
    ⟨p, q, ⟨n, DataW.trod_carry n _ _ _ h1 (fun x hx => hs x (by rw [e]; exact List.mem_append_left _ hx))⟩, trod_carry_all h2 (fun x hx => hs x (by rw [e]; exact List.mem_append_right _ hx)), e⟩

/-- Arguments that the call has left as they were read again behind it. -/
theorem args_again {ts : List TypeId} {vs : List Value} {ds : List (DataW H)} {ps : List MemPlace} (hT : ∀ t ∈ ts, t < Try.prog.types.size)
    (h : DataW.TrodAll enc Try.prog w 0 (fun _ => true) true ts vs ds ps) (hb : Below w.heap.size w w') :
    DataW.TrodAll enc Try.prog w' 0 (fun b => decide (b < w.heap.size)) true ts vs ds ps :=
  (trod_carry_all h (fun _ hp => hb.same (h.lt _ hp))).respare Try.kids Try.full hT (fun p hp => by simpa using h.lt p hp)

theorem add_lit (g o n : Nat) : (⟨g, o, none⟩ : Addr).add n = ⟨g, o + n, none⟩ := by
  unfold Addr.add; split
  · subst n; rfl
  · rfl
/-- A slice of numbers of one cell, opened. -/
theorem open_nums {t e : TypeId} {k : IntKind} {r : Reach} {b0 : Nat} {v : Value} {d : DataW H} {p : List MemPlace} (ht : Try.prog.underlying t = some (.slice e)) (he : Try.prog.underlying e = some (.int k)) (hc : Try.prog.cellsOf e = 1)
    (hv : Value.okWide Try.prog w r b0 t v) (h : DataW.Trod enc Try.prog w base spare held t v d p) :
    ∃ (A : Option Addr) (cap : Nat) (zs : List Int), v = .slice A zs.length cap ∧ zs.length ≤ 9223372036854775807 ∧ (∀ x, x ∈ zs → (Lit.int k x).wf = true) ∧
      (0 < zs.length → ∃ b o, A = some ⟨b, o, none⟩ ∧ b < w.heap.size ∧ ∀ j, j < zs.length → w.cell? ⟨b, o + j, none⟩ = some (.int k (zs.getD j 0))) := by
  obtain ⟨A, n, c, rfl⟩ := Go.WideShapes.okWide_slice ht hv
  obtain ⟨fuel, hf⟩ := h
  rcases open_ints ht he hc hf with ⟨hcs, _⟩ | ⟨a, len, cap, zs, hcs, _, hl, hm, hz, _, hcell, hwz⟩
  · simp [Value.cells] at hcs
    obtain ⟨rfl, rfl, rfl⟩ := hcs
    exact ⟨none, 0, [], rfl, by simp, fun x hx => (by cases hx), fun h0 => absurd h0 (by simp)⟩
  · simp [Value.cells] at hcs
    obtain ⟨rfl, rfl, rfl⟩ := hcs
    have hlz : n ≤ zs.length := by rw [hz]; split <;> omega
    have hlen : (zs.take n).length = n := by rw [List.length_take]; omega
    refine ⟨some a, c, zs.take n, by rw [hlen], by rw [hlen]; unfold maxLen at hm; omega, fun x hx => hwz x (List.mem_of_mem_take hx), ?_⟩
    intro hpos
    rw [hlen] at hpos
    obtain ⟨g, o, sp⟩ := a
    have h0 := hcell 0 (by omega)
    have hs : sp = none := by
      have := World.cell?_spot h0
      simpa [Addr.add] using this
    subst hs
    have hlt : g < w.heap.size := by
      have := World.block_lt_of_cell? w _ h0
      simpa [Addr.add] using this
    refine ⟨g, o, rfl, hlt, fun j hj => ?_⟩
    rw [hlen] at hj
    have h1 := hcell j (by omega)
    rw [add_lit] at h1
    rw [h1]
    simp [List.getD_eq_getElem?_getD, hj]
theorem i64rng {a : Int} (h : (Lit.int .i64 a).wf = true) : I64 a := by simpa [I64, Lit.wf, IntKind.min, IntKind.max, IntKind.signed, IntKind.bits] using h
theorem u8rng {a : Int} (h : (Lit.int .u8 a).wf = true) : 0 ≤ a ∧ a ≤ 255 := by simpa [Lit.wf, IntKind.min, IntKind.max, IntKind.signed, IntKind.bits] using h
theorem u16rng {a : Int} (h : (Lit.int .u16 a).wf = true) : 0 ≤ a ∧ a ≤ 65535 := by simpa [Lit.wf, IntKind.min, IntKind.max, IntKind.signed, IntKind.bits] using h
/-- []int. -/
theorem open_zs {r : Reach} {b0 : Nat} {v : Value} {d : DataW H} {p : List MemPlace} (hv : Value.okWide Try.prog w r b0 25 v) (h : DataW.Trod enc Try.prog w base spare held 25 v d p) :
    ∃ (A : Option Addr) (cap : Nat) (zs : List Int), v = .slice A zs.length cap ∧ zs.length ≤ 9223372036854775807 ∧ (∀ x, x ∈ zs → I64 x) ∧ RdZ w A zs := by
  obtain ⟨A, cap, zs, h1, h2, h3, h4⟩ := open_nums Try.underlying25 Try.underlying3 cellsInt hv h
  exact ⟨A, cap, zs, h1, h2, fun x hx => i64rng (h3 x hx), h4⟩
/-- []uint8. -/
theorem open_us {r : Reach} {b0 : Nat} {v : Value} {d : DataW H} {p : List MemPlace} (hv : Value.okWide Try.prog w r b0 37 v) (h : DataW.Trod enc Try.prog w base spare held 37 v d p) :
    ∃ (A : Option Addr) (cap : Nat) (L : List Nat), v = .slice A L.length cap ∧ L.length ≤ 9223372036854775807 ∧ (∀ x, x ∈ L → x < 256) ∧ RdU w A L := by
  obtain ⟨A, cap, zs, h1, h2, h3, h4⟩ := open_nums Try.underlying37 Try.underlying5 cellsByte hv h
  refine ⟨A, cap, zs.map Int.toNat, by rw [List.length_map]; exact h1, by rw [List.length_map]; exact h2, fun x hx => ?_, fun h0 => ?_⟩
  · obtain ⟨y, hy, rfl⟩ := List.mem_map.1 hx
    have := u8rng (h3 y hy); omega
  · rw [List.length_map] at h0
    obtain ⟨b, o, e, hb, hc⟩ := h4 h0
    refine ⟨b, o, e, hb, fun j hj => ?_⟩
    rw [List.length_map] at hj
    rw [hc j hj]
    have h5 := u8rng (h3 _ (getD_mem hj))
    have h6 : (zs.map Int.toNat).getD j 0 = (zs.getD j 0).toNat := by simp [List.getD_eq_getElem?_getD, hj]
    rw [h6, Int.toNat_of_nonneg h5.1]
end
end Go.Proofs.Ytfmbekdhkilflaa
