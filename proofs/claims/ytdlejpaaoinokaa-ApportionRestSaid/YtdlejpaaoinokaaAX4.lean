/-
  Apportion: the stable sort of at most twenty places.
-/
import Derived.Test.YtdlejpaaoinokaaAX3
namespace Go.Proofs.Ytdlejpaaoinokaa
open Go.RowKit Nd

set_option maxRecDepth 20000 in
set_option maxHeartbeats 1000000 in
theorem isort_nil (n m go cap : Nat) (v : Value) (w : World) (hm : m ≤ 1000000) :
    Calls Try.prog 102 #[.slice (some ⟨go, 0, none⟩) n cap, .int .i64 m, .int .i64 m, v] w fun e w' => e = .returned (.tuple #[]) ∧ w' = w := by
  have d1 : decide ((m : Int) + 1 < (m : Int)) = false := decide_eq_false (by omega)
  go_enter Try.func102, Try.ntmps102
  go_wp2_with fail
  go_loopw [8] (fun iv wr => iv = .int .i64 ((m : Int) + 1) ∧ wr = w) (fun _ _ => 0)
  case atStart => exact ⟨by go_num, rfl⟩
  case round =>
    obtain ⟨rfl, rfl⟩ := hrel
    go_wp2_with fail
    go_end0
    exact ⟨rfl, rfl⟩

set_option maxRecDepth 20000 in
set_option maxHeartbeats 2000000 in
theorem stable_any (n gx gr go cap K : Nat) (s : Nat → ByteArray) (r : Nat → Nat) (w : World) (hn : n ≤ 20) (h : Cmp w gx gr n K s r) (hne : go ≠ gx) (hne2 : go ≠ gr) (hf : Fb w go n (fun a => .int .i64 ((a : Nat) : Int))) :
    Calls Try.prog 86 #[.slice (some ⟨go, 0, none⟩) n cap, .int .i64 n, cmpV gx] w fun e w' => e = .returned (.tuple #[]) ∧ ∃ o, Fb w' go n (fun a => .int .i64 ((o a : Nat) : Int)) ∧ ApO r o n ∧ Chg [go] w w' := by
  have hch : Chg [go] w w := Chg.refl _ _
  go_enter Try.func86, Try.ntmps86
  go_wp2_with fail
  go_loopw [7, 8] (fun av bv wr => ∃ k : Nat, (k = 0 ∧ av = .int .i64 0 ∧ bv = .int .i64 20 ∧ Fb wr go n (fun a => .int .i64 ((a : Nat) : Int)) ∧ Cmp wr gx gr n K s r ∧ Chg [go] w wr) ∨ (k = 1 ∧ n = 20 ∧ av = .int .i64 20 ∧ bv = .int .i64 40 ∧ ∃ o, Fb wr go n (fun a => .int .i64 ((o a : Nat) : Int)) ∧ ApO r o n ∧ Chg [go] w wr)) (fun _ bv _ => 40 - (intOf bv).toNat)
  case atStart => exact ⟨0, .inl ⟨rfl, rfl, rfl, hf, h, hch⟩⟩
  case round =>
    clear hf h hch
    obtain ⟨kk, hrel⟩ := hrel
    rcases hrel with ⟨-, rfl, rfl, hf, hcm, hch⟩ | ⟨-, rfl, rfl, rfl, o, hf, ho, hch⟩
    · by_cases h20 : n = 20
      · subst h20
        go_wp2_with fail
        refine (isort_any 20 20 gx gr go cap K s r _ (Nat.le_refl _) (by omega) hcm hne hne2 hf).mono ?_
        rintro e w1 ⟨rfl, o, hf2, ho, c1⟩
        have HO := Lib.hid ho
        replace hch := hch.trans c1 (fun x hx => .inl hx)
        clear c1 ho hf hcm
        go_wp2_with fail
        go_roundw
        case rel => exact ⟨_, _, _, _, _, _, _, _, _, _, _, _, _, _, ⟨1, .inr ⟨rfl, trivial, rfl, rfl, o, hf2, HO.out, hch⟩⟩, rfl⟩
        case measure => simp [intOf]
      · have d1 : decide ((20 : Int) ≤ (n : Int)) = false := decide_eq_false (by omega)
        have d2 : decide ((20 : Int) < (n : Int)) = false := decide_eq_false (by omega)
        have hISO := Lib.hid (fun w h1 h2 => isort_any n n gx gr go cap K s r w (Nat.le_refl _) (by omega) h1 hne hne2 h2)
        clear h20
        go_wp2_with fail
        refine (hISO.out _ hcm hf).mono ?_
        rintro e w1 ⟨rfl, o, hf2, ho, c1⟩
        have HO := Lib.hid ho
        replace hch := hch.trans c1 (fun x hx => .inl hx)
        clear c1 ho hf hcm
        go_wp2_with fail
        go_loopw [6] (fun v wr => v = .int .i64 20 ∧ Fb wr go n (fun a => .int .i64 ((o a : Nat) : Int)) ∧ Chg [go] w wr) (fun _ _ => 0)
        case atStart => exact ⟨rfl, hf2, hch⟩
        case round =>
          clear hf2 hch
          obtain ⟨rfl, hf2, hch⟩ := hrel
          go_wp2_with fail
          go_end0
          exact ⟨rfl, o, hf2, HO.out, hch⟩
    · have HO := Lib.hid ho
      clear ho
      go_wp2_with fail
      refine (isort_nil 20 20 go cap _ _ (by omega)).mono ?_
      rintro e w1 ⟨rfl, hw⟩
      obtain rfl := hw.symm
      go_wp2_with fail
      go_loopw [6] (fun v wr => v = .int .i64 20 ∧ Fb wr go 20 (fun a => .int .i64 ((o a : Nat) : Int)) ∧ Chg [go] w wr) (fun _ _ => 0)
      case atStart => exact ⟨rfl, hf, hch⟩
      case round =>
        clear hf hch
        obtain ⟨rfl, hf, hch⟩ := hrel
        go_wp2_with fail
        go_end0
        exact ⟨rfl, o, hf, HO.out, hch⟩
set_option maxRecDepth 20000 in
set_option maxHeartbeats 1000000 in
theorem sortStable_any (n gx gr go cap K : Nat) (s : Nat → ByteArray) (r : Nat → Nat) (w : World) (hn : n ≤ 20) (h : Cmp w gx gr n K s r) (hne : go ≠ gx) (hne2 : go ≠ gr) (hf : Fb w go n (fun a => .int .i64 ((a : Nat) : Int))) :
    Calls Try.prog 55 #[.slice (some ⟨go, 0, none⟩) n cap, cmpV gx] w fun e w' => e = .returned (.tuple #[]) ∧ ∃ o, Fb w' go n (fun a => .int .i64 ((o a : Nat) : Int)) ∧ ApO r o n ∧ Chg [go] w w' := by
  have HS := Lib.hid (stable_any n gx gr go cap K s r w hn h hne hne2 hf)
  clear h hf
  go_enter Try.func55, Try.ntmps55
  go_wp2_with fail
  refine HS.out.mono ?_
  rintro e w1 ⟨rfl, o, hf2, ho, c1⟩
  have HO := Lib.hid ho
  clear ho
  go_wp2_with fail
  go_end0
  exact ⟨rfl, o, hf2, HO.out, c1⟩
end Go.Proofs.Ytdlejpaaoinokaa
