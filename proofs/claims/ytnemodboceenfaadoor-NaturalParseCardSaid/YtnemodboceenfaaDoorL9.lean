/-
  The law NaturalParse: its walk.
-/
import Derived.Test.YtnemodboceenfaaDoorR8
import Derived.Test.YtnemodboceenfaaDoorL3
namespace Go.Proofs.YtnemodboceenfaaDoor
open Go.RowKit Nd

set_option maxHeartbeats 1000000 in
theorem lparse_any (s : ByteArray) (w : World) (_hs : s.size ≤ maxLen) :
    Calls Tryd.prog 10 #[.string s] w fun e w' => e = .returned (.bool true) ∧ Chg [] w w' := by
  by_cases h : 2005 < s.size
  · go_enter Tryd.func10, Tryd.ntmps10
    go_wp2_with fail
    refine (awake_any _).mono ?_
    rintro e w2 ⟨rfl, c2⟩
    go_wp2_with fail
    go_ret
    exact ⟨rfl, c2⟩
  · by_cases hc' : canD s.data.toList = true
    · have hc := Lib.hid hc'
      clear hc'
      by_cases hl : 2000 < s.size
      · go_enter Tryd.func10, Tryd.ntmps10
        go_wp2_with fail
        refine (parse_long s _ (by omega) hc.out hl).mono ?_
        rintro e w1 ⟨rfl, rfl⟩
        go_wp2_with fail
        refine (natParse_long s _ (by omega) hc.out hl).mono ?_
        rintro e w1 ⟨rfl, rfl⟩
        go_wp2_with fail
        refine (awake_any _).mono ?_
        rintro e w2 ⟨rfl, c2⟩
        go_wp2_with fail
        go_ret
        exact ⟨rfl, c2⟩
      · go_enter Tryd.func10, Tryd.ntmps10
        go_wp2_with fail
        refine (parse_good s _ hc.out (by omega)).mono ?_
        rintro e w1 ⟨t, rfl, ht, c1⟩
        have HT := Lib.hid ht
        clear ht
        go_wp2_with fail
        refine (natParse_good s _ hc.out (by omega)).mono ?_
        rintro e w2 ⟨u, rfl, hu, c2⟩
        obtain rfl : u = t := Is_unique hu HT.out
        have c3 := c1.then c2
        clear c1 c2 hu
        go_wp2_with fail
        refine (awake_any _).mono ?_
        rintro e w3 ⟨rfl, c4⟩
        have c5 := c3.then c4
        clear c3 c4
        go_wp2_with fail
        go_ret
        exact ⟨rfl, c5⟩
    · have hc : Hid (canD s.data.toList = false) := by show _ = _; simpa using hc'
      clear hc'
      go_enter Tryd.func10, Tryd.ntmps10
      go_wp2_with fail
      refine (parse_bad s _ (by omega) hc.out).mono ?_
      rintro e w1 ⟨rfl, rfl⟩
      go_wp2_with fail
      refine (natParse_bad s _ (by omega) hc.out).mono ?_
      rintro e w1 ⟨rfl, rfl⟩
      go_wp2_with fail
      refine (awake_any _).mono ?_
      rintro e w2 ⟨rfl, c2⟩
      go_wp2_with fail
      go_ret
      exact ⟨rfl, c2⟩

end Go.Proofs.YtnemodboceenfaaDoor
