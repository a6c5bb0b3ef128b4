import Derived.Test.YtaejpejfmpbinaaGreatDoorP41
import Derived.Test.YtaejpejfmpbinaaGreatDoorP42
import Derived.Test.YtaejpejfmpbinaaGreatDoorP43
namespace Go.Proofs.YtaejpejfmpbinaaGreatDoor
open Go.RowKit Go.Maps

theorem hopped_any (x0 x1 x2 x3 x4 : Int) (w : World) (hl : Laid w) (hm : Means w) (h0 : -9223372036854775808 ≤ x0 ∧ x0 ≤ 9223372036854775807) (h1 : -9223372036854775808 ≤ x1 ∧ x1 ≤ 9223372036854775807) (h2 : -9223372036854775808 ≤ x2 ∧ x2 ≤ 9223372036854775807) (h3 : -9223372036854775808 ≤ x3 ∧ x3 ≤ 9223372036854775807) (h4 : -9223372036854775808 ≤ x4 ∧ x4 ≤ 9223372036854775807) :
    Calls Tryz.prog 5 #[.int .i64 x0, .int .i64 x1, .int .i64 x2, .int .i64 x3, .int .i64 x4] w fun e w' => e = .returned (.bool true) ∧ Below w.heap.size w w' := by
  have p := pickV_range x4 (n := 3) (by omega)
  have hs : pickV x4 3 = 0 ∨ pickV x4 3 = 1 ∨ pickV x4 3 = 2 := by omega
  rcases hs with hs | hs | hs
  · exact hopped_s0 x0 x1 x2 x3 x4 w hl hm h0 h1 h2 h3 h4 hs
  · exact hopped_s1 x0 x1 x2 x3 x4 w hl hm h0 h1 h2 h3 h4 hs
  · exact hopped_s2 x0 x1 x2 x3 x4 w hl hm h0 h1 h2 h3 h4 hs
end Go.Proofs.YtaejpejfmpbinaaGreatDoor
