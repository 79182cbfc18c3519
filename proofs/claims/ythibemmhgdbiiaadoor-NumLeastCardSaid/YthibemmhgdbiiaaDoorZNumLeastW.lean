/-
  The walk of NumLeast: for all arguments, where the table lies as it was laid, the call answers true, and nothing that was there has turned.
-/
import Derived.Test.YthibemmhgdbiiaaDoorZay
import Derived.Test.YthibemmhgdbiiaaDoorZba
namespace Go.Proofs.YthibemmhgdbiiaaDoor
open Go.RowKit
set_option linter.unusedVariables false
set_option linter.unusedSimpArgs false
set_option maxRecDepth 100000

set_option maxHeartbeats 8000000 in
theorem numLeast_far (a0 : Option Addr) (len0 cap0 : Nat) (n1 : Int) (w : World) (hT : Tab w) (hn : 100 < len0) (hb : len0 ≤ 9223372036854775807) :
    Calls Tryd.prog 5 #[.slice a0 len0 cap0, .int .i64 n1] w (PB w true) := by
  go_enter Tryd.func5, Tryd.ntmps5
  have HB := Lib.hid (Below.refl w.heap.size w)
  go_wp2_with fail
  refine (awake5 _ hT).mono ?_
  rintro ee w2 ⟨rfl, B⟩
  replace hT := hT.below B
  replace HB := Lib.hid (bt HB.out B)
  clear B
  go_wp2
  go_ret
  exact ⟨rfl, HB.out⟩
set_option maxHeartbeats 8000000 in
theorem numLeast_main (a0 : Option Addr) (len0 cap0 : Nat) (n1 : Int) (w : World) (l : List Int) (hT : Tab w) (h0 : Nl w a0 len0 cap0 l) (hn : len0 ≤ 100) (h1 : -9223372036854775808 ≤ n1) (h2 : n1 ≤ 9223372036854775807) :
    Calls Tryd.prog 5 #[.slice a0 len0 cap0, .int .i64 n1] w (PB w true) := by
  have hbig := h0.2.2.1
  go_enter Tryd.func5, Tryd.ntmps5
  have HB := Lib.hid (Below.refl w.heap.size w)
  go_wp2_with fail
  refine (awake5 _ hT).mono ?_
  rintro ee w2 ⟨rfl, B⟩
  replace hT := hT.below B
  replace h0 := h0.below B
  replace HB := Lib.hid (bt HB.out B)
  clear B
  go_wp2_with fail
  refine (nLeast h0 rfl).mono ?_
  rintro ee w3 ⟨K1, s1, M1, E1, rfl, q1, B⟩
  replace hT := hT.below B
  replace h0 := h0.below B
  replace HB := Lib.hid (bt HB.out B)
  clear B
  go_wp2_with fail
  refine (yLeast h0 rfl).mono ?_
  rintro ee w4 ⟨K2, s2, M2, E2, rfl, q2, B⟩
  replace hT := hT.below B
  replace h0 := h0.below B
  replace HB := Lib.hid (bt HB.out B)
  clear B
  obtain ⟨rfl, rfl, rfl, rfl⟩ := q1.uniq q2
  clear q1 q2
  go_wp2_with fail
  refine (nMost h0 rfl).mono ?_
  rintro ee w5 ⟨K3, s3, M3, E3, rfl, q3, B⟩
  replace hT := hT.below B
  replace h0 := h0.below B
  replace HB := Lib.hid (bt HB.out B)
  clear B
  go_wp2_with fail
  refine (yMost h0 rfl).mono ?_
  rintro ee w6 ⟨K4, s4, M4, E4, rfl, q4, B⟩
  replace hT := hT.below B
  replace h0 := h0.below B
  replace HB := Lib.hid (bt HB.out B)
  clear B
  obtain ⟨rfl, rfl, rfl, rfl⟩ := q3.uniq q4
  clear q3 q4
  go_wp2_with fail
  refine (nOf _ h1 h2 rfl).mono ?_
  rintro ee w7 ⟨K5, s5, M5, E5, rfl, q5, B⟩
  replace HB := Lib.hid (bt HB.out B)
  clear B
  go_wp2_with fail
  refine (yOf _ h1 h2 rfl).mono ?_
  rintro ee w8 ⟨K6, s6, M6, E6, rfl, q6, B⟩
  replace HB := Lib.hid (bt HB.out B)
  clear B
  obtain ⟨rfl, rfl, rfl, rfl⟩ := q5.uniq q6
  clear q5 q6
  go_wp2
  go_ret
  exact ⟨rfl, HB.out⟩

theorem numLeast_walk (a0 : Option Addr) (len0 cap0 : Nat) (n1 : Int) (w : World) (hT : Tab w) (w0 : RowsN w a0 len0 cap0) (w1 : (Lit.int .i64 n1).wf = true) :
    Calls Tryd.prog 5 #[.slice a0 len0 cap0, .int .i64 n1] w fun e w' => e = .returned (.bool true) ∧ Below w.heap.size w w' := by
  by_cases hn : len0 ≤ 100
  · obtain ⟨l, hl⟩ := w0.nl (by omega)
    exact numLeast_main a0 len0 cap0 n1 w l hT hl hn (wf_i64' w1).1 (wf_i64' w1).2
  · exact numLeast_far a0 len0 cap0 n1 w hT (by omega) w0.len
end Go.Proofs.YthibemmhgdbiiaaDoor
