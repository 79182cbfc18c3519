/-
  Contracts and words that the statement's proof rests on, several texts in one: Ua, Uc.
-/
import Derived.Below
import Derived.BigCall
import Derived.BigGuard
import Derived.BigQuiet
import Derived.Carry
import Derived.Deep.Draws
import Derived.Deep.MidRow
import Derived.Deep.QuietTactic
import Derived.Deep.RegionWith
import Derived.Laws.CopyOwn
import Derived.Laws.MakeOwn
import Derived.Laws.OwnMore
import Derived.Laws.RangeAny
import Derived.Laws.Rows
import Derived.Lib.AppendIntMem
import Derived.Lib.Atoi
import Derived.Lib.AtoiErrMem
import Derived.Lib.BitFns
import Derived.Lib.Hide
import Derived.Lib.ItoaMem
import Derived.Lib.ItoaNum
import Derived.Lib.Repeat
import Derived.Lib.Strings
import Derived.Lib.TrimByte
import Derived.Test.YtpmakljahhhnfaaGreatDoorRows
import Derived.WalkKit
import Derived.WalkLawsBesides
import Derived.WalkMore
import Derived.WalkSpells
import Derived.Test.YtpmakljahhhnfaaGreatDoorYAac
import Derived.Test.YtpmakljahhhnfaaGreatDoorYAak
import Derived.Test.YtpmakljahhhnfaaGreatDoorYAba
import Derived.Test.YtpmakljahhhnfaaGreatDoorYAbf
/-
  What pelorusref04.ten, is, run, small, number answer.
-/
namespace Go.Proofs.YtpmakljahhhnfaaGreatDoor
open Go.RowKit
set_option linter.unusedVariables false
set_option linter.unusedSimpArgs false
set_option maxRecDepth 100000

theorem uTen (w : World) : Calls Tryz.prog 105 #[] w (P1 w 1 10) := by
  go_enter Tryz.func105, Tryz.ntmps105
  go_wp2
  go_ret
  exact ⟨_, _, _, rfl, (lit_nt w rfl rfl (by decide) (by decide)).nm, Nat.le_refl _, bel1 _ _⟩
end Go.Proofs.YtpmakljahhhnfaaGreatDoor

/-
  What pelorusref04.Digits answers.
-/
namespace Go.Proofs.YtpmakljahhhnfaaGreatDoor
open Go.RowKit
set_option linter.unusedVariables false
set_option linter.unusedSimpArgs false
set_option maxRecDepth 100000

theorem Nm.one {w : World} {B : Option Addr} {m d r : Nat} (h : Nm w B m d r) (h0 : 0 < r) (h1 : r < 4294967296) : m = 1 ∧ ∃ b o, B = some ⟨b, o, none⟩ ∧ w.cell? ⟨b, o, none⟩ = some (.int .u32 (r : Int)) := by
  obtain ⟨b, h⟩ := h
  rw [limbs_one h0 h1] at h
  have hl := h.len
  simp at hl
  subst hl
  obtain ⟨o, e, hc⟩ := h.at (by decide)
  have := hc 0 (by decide)
  simp only [Nat.add_zero, List.getD_cons_zero] at this
  exact ⟨rfl, b, o, e, this⟩
theorem conv_one (W : World) {g : Nat} (hg : W.heap.size = g) (x : UInt8) {z : Int} (hz : z = (x.toNat : Int)) :
    (convert 118 9 (.slice (some ⟨g, 0, none⟩) 1 1)).run Tryz.prog (W.alloc (.cells #[.int .u8 z] 5)) = .ok (.string (st [x])) (W.alloc (.cells #[.int .u8 z] 5)) := by
  subst hz; subst hg
  have hh := heap_alloc_new W (.cells #[.int .u8 (x.toNat : Int)] 5)
  exact run_convert_bytes_back (P := Tryz.prog) (W.alloc (.cells #[.int .u8 (x.toNat : Int)] 5)) 118 9 5 ⟨W.heap.size, 0, none⟩ 1 [x] Tryz.underlying118 Tryz.underlying5 Tryz.underlying9 (fun j hj => by
    obtain rfl : j = 0 := by simp at hj; omega
    rw [Lib.add_plain, cell_of_row _ _ _ _ _ _ hh]
    rfl)
theorem st_cat (a b : List UInt8) : (st a) ++ (st b) = st (a ++ b) := by
  apply ByteArray.ext
  simp
theorem dgs_few {a n : Nat} (h : a < 4294967296 ^ n) : (dgs a).length ≤ 10 * n + 1 := by
  unfold dgs
  split
  · simp
  · rw [Lib.decDigits_length]
    refine nDig_le ?_
    have h1 : 4294967296 ^ n ≤ (10 ^ 10) ^ n := Nat.pow_le_pow_left (by decide) n
    rw [← Nat.pow_mul] at h1
    have h2 : 10 ^ (10 * n) ≤ 10 ^ (10 * n + 1) := Nat.pow_le_pow_right (by decide) (by omega)
    omega
def strLen (v : Value) : Nat := match v with
  | .string s => s.size
  | _ => 0
def DigInv (w : World) (V : Nat) (D : List UInt8) (u : Value) (wr : World) : Prop :=
  ∃ A n c v, u = .slice A n c ∧ Nm wr A n c v ∧ n ≤ 1000000 ∧ dgs v ++ D = dgs V ∧ Below w.heap.size w wr

set_option maxHeartbeats 4000000 in
theorem uDigits {w : World} {A : Option Addr} {n c a : Nat} (h : Rd w A n c a) (hn : n ≤ 100000) : Calls Tryz.prog 118 #[.slice A n c] w (PS w (Lib.decDigits a)) := by
  have hd := dec_dgs a
  have hfew := dgs_few h.bound
  by_cases ha : a = 0
  · subst ha
    go_enter Tryz.func118, Tryz.ntmps118
    go_wp2_with fail
    refine (rTrim h).mono ?_
    rintro e w1 ⟨A1, n1, c1, rfl, h1, k1, B1⟩
    obtain rfl : n1 = 0 := by have := h1.pos; omega
    go_wp2
    go_ret
    refine ⟨?_, B1⟩
    rw [hd]
    rfl
  · rw [if_neg ha] at hd
    have HD := Lib.hid hd
    have HA := Lib.hid ha
    clear hd ha
    go_enter Tryz.func118, Tryz.ntmps118
    go_wp2_with fail
    refine (rTrim h).mono ?_
    rintro e w1 ⟨A1, n1, c1, rfl, h1, k1, B1⟩
    have hn0 : 0 < n1 := h1.pos.2 (Nat.pos_of_ne_zero HA.out)
    have t0 : ((n1 : Int) == 0) = false := by simp; omega
    have HI0 := Lib.hid (show DigInv w a [] (.slice A1 n1 c1) w1 from ⟨A1, n1, c1, a, rfl, h1, by omega, by simp, B1⟩)
    clear h1 B1
    go_wp2
    go_loopw [3, 4] (fun u s wr => ∃ D : List UInt8, s = .string (st D) ∧ DigInv w a D u wr) (fun _ s _ => (dgs a).length - strLen s)
    case atStart => exact ⟨[], rfl, HI0.out⟩
    case round =>
      obtain ⟨D, rfl, A2, n2, c2, v, rfl, h2, k2, e2, B2⟩ := hrel
      have hpos := h2.pos
      have hDlen : (st D).size = D.length := st_size D
      by_cases hv : v = 0
      · subst hv
        obtain rfl : n2 = 0 := by omega
        have e3 : D = dgs a := e2
        have HE := Lib.hid (e3.trans HD.out.symm)
        clear e2 e3 hDlen
        go_wp2
        go_ret
        exact ⟨by rw [HE.out]; rfl, B2⟩
      · have hn2 : 0 < n2 := by omega
        have hstep := dgs_step hv
        have hlt : D.length < (dgs a).length := by
          have h5 : dgs v ≠ [] := fun e => hv (dgs_nil.1 e)
          have h6 : 0 < (dgs v).length := List.length_pos_iff.2 h5
          have h7 := congrArg List.length e2
          rw [List.length_append] at h7
          omega
        rw [hstep, List.append_assoc] at e2
        have HE := Lib.hid e2
        have HLT := Lib.hid hlt
        have hDb : D.length ≤ 2000000 := by omega
        have t1 : 0 < n2 := hn2
        clear e2 hstep hlt hpos
        go_wp2_with fail
        refine (uTen _).mono ?_
        rintro e w3 ⟨A3, n3, c3, rfl, h3, k3, B3⟩
        go_wp2_with fail
        refine (rDiv (h2.rd.below B3) h3.rd (by omega) (by omega) (by decide)).mono ?_
        rintro e w4 ⟨A4, n4, c4, A5, n5, c5, rfl, h4, h5, k4, k5, B4⟩
        have hBB := bt B2 (bt B3 B4)
        obtain ⟨x, hx⟩ : ∃ x, UInt8.ofNat (48 + v % 10) = x := ⟨_, rfl⟩
        have hxn : x.toNat = 48 + v % 10 := by rw [← hx]; simp; omega
        rw [hx] at HE
        have hI : ∀ W, Below w4.heap.size w4 W → DigInv w a ([x] ++ D) (.slice A4 n4 c4) W := fun W hb => ⟨A4, n4, c4, v / 10, rfl, h4.below hb, by omega, HE.out, bt hBB hb⟩
        have hlen2 : (st ([x] ++ D)).size = D.length + 1 := by rw [st_size]; simp
        have hcat := st_cat [x] D
        by_cases hr : v % 10 = 0
        · obtain rfl : n5 = 0 := by have := h5.pos; omega
          have hcv := conv_one w4 (g := w4.heap.size) rfl x (z := 48) (by omega)
          have HI := Lib.hid (hI _ (bel1 w4 (.cells #[.int .u8 48] 5)))
          clear h4 h5 h3 h2 hI hBB B3 B4 hx hxn hv
          go_wp2
          go_roundw
          case rel => exact ⟨[x] ++ D, rfl, HI.out⟩
          case measure =>
            have := HLT.out
            show (dgs a).length - (st ([x] ++ D)).size < (dgs a).length - (st D).size
            rw [hlen2, hDlen]
            omega
        · obtain ⟨rfl, b, o, rfl, hcell⟩ := h5.one (by omega) (by have := Nat.mod_lt v (by decide : 10 > 0); omega)
          obtain ⟨y, hy⟩ : ∃ y, v % 10 = y := ⟨_, rfl⟩
          have hy10 : y < 10 := by rw [← hy]; exact Nat.mod_lt v (by decide)
          rw [hy] at hcell hxn
          have hcv := conv_one w4 (g := w4.heap.size) rfl x (z := 48 + (y : Int)) (by omega)
          have HI := Lib.hid (hI _ (bel1 w4 (.cells #[.int .u8 (48 + (y : Int))] 5)))
          clear h4 h5 h3 h2 hI hBB B3 B4 hx hxn hv hr hy
          go_wp2
          go_roundw
          case rel => exact ⟨[x] ++ D, rfl, HI.out⟩
          case measure =>
            have := HLT.out
            show (dgs a).length - (st ([x] ++ D)).size < (dgs a).length - (st D).size
            rw [hlen2, hDlen]
            omega
end Go.Proofs.YtpmakljahhhnfaaGreatDoor
