/-
  Contracts and words that the statements' proofs rest on, several texts in one: Sa, Sf.
-/
import Derived.Lib.ItoaMem
import Derived.Lib.AppendIntMem
import Derived.Lib.AtoiErrMem
import Derived.Lib.Repeat
import Derived.BigCall
import Derived.BigGuard
import Derived.Test.YtdfnjhkcicnkpaaGreatDoorZac
import Derived.Test.YtdfnjhkcicnkpaaGreatDoorZad
import Derived.Test.YtdfnjhkcicnkpaaGreatDoorZai
/-
  What the library calls that decimal makes do, over lists of bytes: CutPrefix, TrimLeft, Repeat, Itoa, Atoi, FormatUint. No walk but FormatUint's.
-/
namespace Go.Proofs.YtdfnjhkcicnkpaaGreatDoor
open Go.RowKit
set_option linter.unusedVariables false
set_option maxRecDepth 100000

/-- A text, as the list of its bytes. -/
abbrev st (l : List UInt8) : ByteArray := ⟨l.toArray⟩
theorem st_of (s : ByteArray) : ∃ l, s = st l := ⟨s.data.toList, (Lib.mk_data s).symm⟩
theorem st_size (l : List UInt8) : (st l).size = l.length := by simp [ByteArray.size]
theorem st_data (l : List UInt8) : (st l).data.toList = l := by simp
/-- What is answered is just that text. -/
def PS (w : World) (l : List UInt8) (e : Ending) (w' : World) : Prop := e = .returned (.string (st l)) ∧ Below w.heap.size w w'

/-- The table of the powers of ten lies as laid. -/
def Pt (w : World) : Prop := ∃ T fz, w.heap[3]? = some (.cells (Lib.pow10Tab.map fun z => Value.int .u64 z).toArray T fz)
theorem Pt.lt {w : World} (h : Pt w) : 3 < w.heap.size := by
  obtain ⟨T, fz, h⟩ := h
  exact (Array.getElem?_eq_some_iff.1 h).1
theorem Pt.below {w w' : World} (h : Pt w) (hb : Below w.heap.size w w') : Pt w' := by
  have hl := h.lt
  obtain ⟨T, fz, h⟩ := h
  exact ⟨T, fz, (hb.block _ hl).trans h⟩
theorem Pt.is {w : World} (h : Pt w) {nm : String} (hg : Tryz.prog.globalNamed nm = some 3) : Lib.TabIs Tryz.prog w nm .u64 Lib.pow10Tab := by
  obtain ⟨T, fz, h⟩ := h
  unfold Lib.TabIs World.var?
  rw [hg]
  simp only [Option.bind_some, h]

theorem sCut (l p : List UInt8) (w : World) : Calls Tryz.prog 60 #[.string (st l), .string (st p)] w fun e w' => e = .returned (.tuple #[.string (st (Lib.trimPrefix l p)), .bool (Lib.hasPrefix l p)]) ∧ w' = w := by
  have h := Any.strings_CutPrefix Tryz.lays103 (st l) (st p) w
  rw [st_data, st_data] at h
  exact h
theorem sTrim (l : List UInt8) (w : World) : Calls Tryz.prog 42 #[.string (st l), .string (st [48])] w fun e w' => e = .returned (.string (st (Lib.trimLeftB l 48))) ∧ w' = w := by
  have h := Any.strings_TrimLeft_one Tryz.lays161 (st l) 48 (by decide) w
  rw [st_data] at h
  exact h
theorem sRep (c : Nat) (w : World) (hc : c ≤ 100) : Calls Tryz.prog 103 #[.string (st [48]), .int .i64 c] w (PS w (List.replicate c 48)) := by
  have h := Any.strings_Repeat Tryz.lays105 Tryz.Builder_Extra_105 (st [48]) c w (by omega) (by rw [st_size]; simp; omega)
  rw [st_data, show Lib.repeatL [48] c = List.replicate c 48 by have := Lib.repeatL_replicate 48 1 c; simpa using this] at h
  exact h
theorem sItoa (n : Int) (w : World) (h0 : -9223372036854775808 ≤ n) (h1 : n ≤ 9223372036854775807) (h : Pt w) : Calls Tryz.prog 53 #[.int .i64 n] w (PS w (Lib.itoa n)) := by
  refine (Any.strconv_Itoa Tryz.laysM171 n h0 h1 w (h.is (by kernel_rfl))).mono ?_
  rintro e w' ⟨rfl, k, os, rfl⟩
  exact ⟨rfl, Lib.below_grow _ _ (Nat.le_refl _) k os⟩
theorem dec_atoi (l : List UInt8) : ∀ (a : Nat), (∀ c ∈ l, isDig c = true) → Lib.decFrom a l = some (dvl l a) := by
  induction l with
  | nil => intro a _; rfl
  | cons c l ih =>
    intro a h
    have hc := isDig_of (h c (by simp))
    simp only [Lib.decFrom, Lib.digitVal, hc, and_self, if_true, dvl]
    rw [ih _ (fun x hx => h x (by simp [hx])), Nat.mul_comm]
theorem sAtoi (l : List UInt8) (w : World) (h : ∀ c ∈ l, isDig c = true) (hn : l ≠ []) (hl : l.length ≤ 3) : Calls Tryz.prog 95 #[.string (st l)] w fun e w' => e = .returned (.tuple #[.int .i64 (dval l : Nat), .nilIface]) ∧ Below w.heap.size w w' := by
  have ha : Lib.atoi (st l).data.toList = some (dval l : Int) := by
    rw [st_data]
    cases l with
    | nil => exact absurd rfl hn
    | cons c l =>
      have hc := isDig_of (h c (by simp))
      have h1 : (c == 45) = false := by
        rw [beq_eq_false_iff_ne]; rintro rfl; revert hc; decide
      have h2 : (c == 43) = false := by
        rw [beq_eq_false_iff_ne]; rintro rfl; revert hc; decide
      simp only [Lib.atoi, h1, h2, Lib.decNat, List.isEmpty_cons, dec_atoi (c :: l) 0 h]
      rfl
  refine (Any.strconv_Atoi Tryz.lays172 (st l) _ (by rw [st_size]; omega) ha w).mono ?_
  rintro e w' ⟨rfl, t, rfl⟩
  exact ⟨rfl, Lib.bytesWorld_below _ _ _⟩
end Go.Proofs.YtdfnjhkcicnkpaaGreatDoor

/-
  What strconv.FormatUint does at base ten.
-/
namespace Go.Proofs.YtdfnjhkcicnkpaaGreatDoor
open Go.RowKit Go.Sort Go.Lib
set_option linter.unusedVariables false
set_option maxRecDepth 100000

theorem zero24 (w : World) (T : TypeId) (nd : Nat) (hs : nd ≤ 24) : Holds (fun (b : UInt8) => Value.int .u8 (b.toNat : Int)) (w.alloc (.cells Lib.zeros24 T)) w.heap.size 0 (Array.replicate nd (0 : UInt8)) := fun j hj => by
  have hj' : j < nd := by simpa using hj
  refine ⟨?_, World.frozen?_alloc_new _ _ _ _⟩
  rw [World.cell?_alloc_new, Lib.zeros24_at _ (by omega), getElem!_pos _ j hj]
  simp
theorem fin_zero (w : World) (o : Obj) (dk : Array UInt8) (k : Nat) : ∃ os, (putRow (fun (b : UInt8) => Value.int .u8 (b.toNat : Int)) (w.alloc o) w.heap.size 0 dk).drewN k = grow (w.drewN k) os := by
  rw [alloc_eq_grow]
  obtain ⟨os', _, e⟩ := putRow_grow_new (fun (b : UInt8) => Value.int .u8 (b.toNat : Int)) w #[o] w.heap.size 0 dk (Nat.le_refl _)
  exact ⟨os', by rw [e]; rfl⟩

set_option maxHeartbeats 4000000 in
theorem sFmtI (u : Nat) (hu : u < 18446744073709551616) (w : World) (hP : Pt w) : Calls Tryz.prog 122 #[.int .u64 u, .int .i64 10] w (PS w (decDigits u)) := by
  by_cases h : u < 100
  · have ht : decide ((u : Int) < 100) = true := by simp; omega
    go_enter Tryz.func122, Tryz.ntmps122
    go_wp2_with (go_at_call 129; refine (Any.internal_strconv_small Tryz.lays283 u h _).mono ?_; rintro e w' ⟨rfl, rfl⟩)
    go_ret
    exact ⟨rfl, Below.refl _ _⟩
  · have hu1 : 1 ≤ u := by omega
    have hnd20 : nDigits u ≤ 20 := by have := numDigits_eq u hu1 hu; split at this <;> omega
    have hal : Tryz.prog.arrayLen 147 = 24 := by simp [Program.arrayLen, Tryz.underlying147]
    have hsl1 : ∀ W, (Instr.sliceAt 147 (.pointer (some ⟨w.heap.size, 0, none⟩)) none (some (.int .i64 (nDigits u : Int))) none).run Tryz.prog W = .ok (.slice (some ⟨w.heap.size, 0, none⟩) (nDigits u) 24) W := fun W => by
      rw [run_sliceAt_array_h W 147 ⟨w.heap.size, 0, none⟩ (by simp [Program.arrayLen, Program.elem, Tryz.underlying147]) .i64 (nDigits u : Int) (by omega) (by rw [hal]; omega)]
      go_simp
    have hH0 := zero24 w 147 (nDigits u) (by omega)
    have hfmt := Any.internal_strconv_formatBase10 Tryz.lays285 w.heap.size 0 24 u (Array.replicate (nDigits u) 0) (w.alloc (.cells Lib.zeros24 147)) hH0 (by rw [Array.size_replicate]; exact lt_pow_nDigits u) hu (by rw [Array.size_replicate]; omega)
    rw [Array.size_replicate] at hfmt
    have HH0 := Lib.hid hH0
    have HF := Lib.hid hfmt
    clear hH0 hal hfmt
    have HT := Lib.hid (hP.below (bel1 w (.cells Lib.zeros24 147)))
    have ht : decide ((u : Int) < 100) = false := by simp; omega
    go_enter Tryz.func122, Tryz.ntmps122
    go_wp2_with (go_at_call 130; refine (Any.internal_strconv_numDigits Tryz.laysM284 u hu1 hu _ (HT.out.is (by kernel_rfl))).mono ?_; rintro e w' ⟨rfl, rfl⟩)
    refine HF.out.mono ?_
    rintro e w' ⟨rfl, k, v', dk, rfl, hF⟩
    have hcv : (convert 60 9 (.slice (some ⟨w.heap.size, 0, none⟩) (nDigits u) 24)).run Tryz.prog ((putRow (fun (b : UInt8) => Value.int .u8 (b.toNat : Int)) (w.alloc (.cells Lib.zeros24 147)) w.heap.size 0 dk).drewN k) = .ok (.string ⟨(decDigits u).toArray⟩) ((putRow (fun (b : UInt8) => Value.int .u8 (b.toNat : Int)) (w.alloc (.cells Lib.zeros24 147)) w.heap.size 0 dk).drewN k) := by
      have h := run_convert_bytes_back (P := Tryz.prog) ((putRow (fun (b : UInt8) => Value.int .u8 (b.toNat : Int)) (w.alloc (.cells Lib.zeros24 147)) w.heap.size 0 dk).drewN k) 60 9 5 ⟨w.heap.size, 0, none⟩ 24 (decDigits u) Tryz.underlying60 Tryz.underlying5 Tryz.underlying9 (fun j hj => by
        rw [row_is_numeral hF j hj, add_plain, World.cell?_drewN]
        exact cell?_putRow (fun (b : UInt8) => Value.int .u8 (b.toNat : Int)) _ w.heap.size 0 _ dk HH0.out (by rw [hF.size, Array.size_replicate]) j (by rw [hF.size]; rw [decDigits_length] at hj; exact hj))
      rw [decDigits_length] at h
      exact h
    go_wp2
    go_ret
    obtain ⟨os, eo⟩ := fin_zero w (.cells Lib.zeros24 147) dk k
    refine ⟨rfl, ?_⟩
    rw [eo]
    exact below_grow _ _ (Nat.le_refl _) k os

theorem sFmt (u : Nat) (hu : u < 18446744073709551616) (w : World) (hP : Pt w) : Calls Tryz.prog 102 #[.int .u64 u, .int .i64 10] w (PS w (decDigits u)) := by
  go_enter Tryz.func102, Tryz.ntmps102
  go_wp2_with (go_at_call 122; refine (sFmtI u hu _ hP).mono ?_; rintro e w' ⟨rfl, B⟩)
  go_ret
  exact ⟨rfl, B⟩
end Go.Proofs.YtdfnjhkcicnkpaaGreatDoor
