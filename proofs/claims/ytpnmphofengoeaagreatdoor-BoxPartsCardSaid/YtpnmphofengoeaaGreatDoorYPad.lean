/-
  Contracts and words that the statement's proof rests on: Cut.
-/
import Derived.BigQuiet
import Derived.Deep.QuietTactic
import Derived.Test.YtpnmphofengoeaaGreatDoorRows
import Derived.WalkKit
import Derived.WalkLawsBesides
import Derived.WalkSpells
import Derived.Test.YtpnmphofengoeaaGreatDoorYPac
namespace Go.Proofs.YtpnmphofengoeaaGreatDoor
open Go.RowKit
set_option linter.unusedVariables false

theorem info32 : (Tryz.prog.info? 74).map (fun i => (i.zero, i.size, i.bytes)) = some (some (.int .u32 0), 1, 4) := by kernel_rfl
theorem run_make32 (n : Nat) (hn : n ≤ 1099511627776) (w : World) :
    (Instr.makeSlice 79 (.int .i64 (n : Int)) (.int .i64 (n : Int))).run Tryz.prog w = .ok (.slice (some ⟨w.heap.size, 0, none⟩) n n) (w.alloc (.cells (arr (List.replicate n 0)) 74)) := by
  obtain ⟨i, hi, hz, hs, hby⟩ := info_parts info32; have hr := run_make (P := Tryz.prog) w 79 74 i _ Tryz.underlying79 hi hz .i64 .i64 n n (by omega) (by omega) (by rw [hby]; omega) (by omega); rw [hr, hs, Nat.mul_one, Int.toNat_natCast, made_eq]

theorem run_make32' (n : Nat) (z : Int) (hz : z = n) (hn : n ≤ 1099511627776) (w : World) :
    (Instr.makeSlice 79 (.int .i64 z) (.int .i64 z)).run Tryz.prog w = .ok (.slice (some ⟨w.heap.size, 0, none⟩) n n) (w.alloc (.cells (arr (List.replicate n 0)) 74)) := by
  subst hz; exact run_make32 n hn w

theorem lit1 (W : World) (x : Nat) (hx : x < 4294967296) : Sl (W.alloc (.cells #[.int .u32 (x : Int)] 74)) W.heap.size (some ⟨W.heap.size, 0, none⟩) 1 1 [x] := (Own.new W [x]).all (Lim.cons hx Lim.nil) (by simp) (Nat.le_refl _)
theorem lit2 (W : World) (x y : Nat) (hx : x < 4294967296) (hy : y < 4294967296) : Sl (W.alloc (.cells #[.int .u32 (x : Int), .int .u32 (y : Int)] 74)) W.heap.size (some ⟨W.heap.size, 0, none⟩) 2 2 [x, y] :=
  (Own.new W [x, y]).all (Lim.cons hx (Lim.cons hy Lim.nil)) (by simp) (Nat.le_refl _)
theorem alloc_below (W : World) (o : Obj) : Below W.heap.size W (W.alloc o) := (Below.refl _ _).alloc (Nat.le_refl _) _

theorem one_limb (w : World) : Sl (w.alloc (.cells #[.int .u32 1] 74)) w.heap.size (some ⟨w.heap.size, 0, none⟩) 1 1 [1] := (Own.new w [1]).all (Lim.cons (by decide) Lim.nil) (by simp) (Nat.le_refl _)

end Go.Proofs.YtpnmphofengoeaaGreatDoor
