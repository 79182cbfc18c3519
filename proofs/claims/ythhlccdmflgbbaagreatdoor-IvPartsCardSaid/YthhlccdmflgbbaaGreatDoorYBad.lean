/-
  Contracts and words that the statement's proof rests on, several texts in one: Cut.
-/
import Derived.BigQuiet
import Derived.Deep.QuietTactic
import Derived.Test.YthhlccdmflgbbaaGreatDoorRows
import Derived.WalkKit
import Derived.WalkLawsBesides
import Derived.WalkSpells
import Derived.Test.YthhlccdmflgbbaaGreatDoorYBac
/-
  What nat.cut and nat.Trim do, for every slice of limbs.
-/
namespace Go.Proofs.YthhlccdmflgbbaaGreatDoor
open Go.RowKit
set_option linter.unusedVariables false

theorem info32 : (Tryz.prog.info? 77).map (fun i => (i.zero, i.size, i.bytes)) = some (some (.int .u32 0), 1, 4) := by kernel_rfl
/-- make([]uint32, n). -/
theorem run_make32 (n : Nat) (hn : n ≤ 1099511627776) (w : World) :
    (Instr.makeSlice 56 (.int .i64 (n : Int)) (.int .i64 (n : Int))).run Tryz.prog w = .ok (.slice (some ⟨w.heap.size, 0, none⟩) n n) (w.alloc (.cells (arr (List.replicate n 0)) 77)) := by
  obtain ⟨i, hi, hz, hs, hby⟩ := info_parts info32; have hr := run_make (P := Tryz.prog) w 56 77 i _ Tryz.underlying56 hi hz .i64 .i64 n n (by omega) (by omega) (by rw [hby]; omega) (by omega); rw [hr, hs, Nat.mul_one, Int.toNat_natCast, made_eq]

theorem run_make32' (n : Nat) (z : Int) (hz : z = n) (hn : n ≤ 1099511627776) (w : World) :
    (Instr.makeSlice 56 (.int .i64 z) (.int .i64 z)).run Tryz.prog w = .ok (.slice (some ⟨w.heap.size, 0, none⟩) n n) (w.alloc (.cells (arr (List.replicate n 0)) 77)) := by
  subst hz; exact run_make32 n hn w

theorem lit1 (W : World) (x : Nat) (hx : x < 4294967296) : Sl (W.alloc (.cells #[.int .u32 (x : Int)] 77)) W.heap.size (some ⟨W.heap.size, 0, none⟩) 1 1 [x] := (Own.new W [x]).all (Lim.cons hx Lim.nil) (by simp) (Nat.le_refl _)
theorem lit2 (W : World) (x y : Nat) (hx : x < 4294967296) (hy : y < 4294967296) : Sl (W.alloc (.cells #[.int .u32 (x : Int), .int .u32 (y : Int)] 77)) W.heap.size (some ⟨W.heap.size, 0, none⟩) 2 2 [x, y] :=
  (Own.new W [x, y]).all (Lim.cons hx (Lim.cons hy Lim.nil)) (by simp) (Nat.le_refl _)
theorem alloc_below (W : World) (o : Obj) : Below W.heap.size W (W.alloc o) := (Below.refl _ _).alloc (Nat.le_refl _) _

theorem one_limb (w : World) : Sl (w.alloc (.cells #[.int .u32 1] 77)) w.heap.size (some ⟨w.heap.size, 0, none⟩) 1 1 [1] := (Own.new w [1]).all (Lim.cons (by decide) Lim.nil) (by simp) (Nat.le_refl _)

end Go.Proofs.YthhlccdmflgbbaaGreatDoor
