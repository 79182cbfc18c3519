/-
  Contracts and words that the statements' proofs rest on, several texts in one: Ua, Uc.
-/
import Derived.Test.YtdfnjhkcicnkpaaGreatDoorZac
import Derived.Test.YtdfnjhkcicnkpaaGreatDoorZal
import Derived.Test.YtdfnjhkcicnkpaaGreatDoorZau
import Derived.Test.YtdfnjhkcicnkpaaGreatDoorZax
/-
  What pelorusref04.ten, is, run, small, number answer.
-/
namespace Go.Proofs.YtdfnjhkcicnkpaaGreatDoor
open Go.RowKit
set_option linter.unusedVariables false
set_option linter.unusedSimpArgs false
set_option maxRecDepth 100000

theorem uTen (w : World) : Calls Tryz.prog 38 #[] w (P1 w 1 10) := by
  go_enter Tryz.func38, Tryz.ntmps38
  go_wp2
  go_ret
  exact ⟨_, _, _, rfl, (lit_nt w rfl rfl (by decide) (by decide)).nm, Nat.le_refl _, bel1 _ _⟩
theorem uIs {c : Nat} {p : Bool} (w : World) (h : (decide (48 ≤ c) && decide (c ≤ 57)) = p) : Calls Tryz.prog 68 #[.int .u8 (c : Int)] w fun e w' => e = .returned (.bool p) ∧ w' = w := by
  subst h
  by_cases h1 : 48 ≤ c
  · have e1 : decide ((48 : Int) ≤ (c : Int)) = true := by simp; omega
    by_cases h2 : c ≤ 57
    · have e2 : decide ((c : Int) ≤ 57) = true := by simp; omega
      have e3 : (decide (48 ≤ c) && decide (c ≤ 57)) = true := by simp [h1, h2]
      rw [e3]
      go_enter Tryz.func68, Tryz.ntmps68
      go_wp2
      go_ret
      exact ⟨rfl, rfl⟩
    · have e2 : decide ((c : Int) ≤ 57) = false := by simp; omega
      have e3 : (decide (48 ≤ c) && decide (c ≤ 57)) = false := by simp [h1, h2]
      rw [e3]
      go_enter Tryz.func68, Tryz.ntmps68
      go_wp2
      go_ret
      exact ⟨rfl, rfl⟩
  · have e1 : decide ((48 : Int) ≤ (c : Int)) = false := by simp; omega
    have e3 : (decide (48 ≤ c) && decide (c ≤ 57)) = false := by simp [h1]
    rw [e3]
    go_enter Tryz.func68, Tryz.ntmps68
    go_wp2
    go_ret
    exact ⟨rfl, rfl⟩

set_option maxHeartbeats 4000000 in
theorem uRun (l : List UInt8) (a : Nat) (w : World) (ha : a ≤ l.length) (hl : l.length ≤ 1000) : Calls Tryz.prog 28 #[.string (st l), .int .i64 (a : Int)] w fun e w' => e = .returned (.int .i64 (runL (l.drop a) : Nat)) ∧ w' = w := by
  have hle := runL_le (l.drop a)
  rw [List.length_drop] at hle
  have hsz : (st l).size = l.length := st_size l
  obtain ⟨L, hL⟩ : ∃ L, l.length = L := ⟨_, rfl⟩
  obtain ⟨R, hR⟩ : ∃ R, runL (l.drop a) = R := ⟨_, rfl⟩
  have hyes : ∀ k, k < R → ∃ c : Nat, (48 ≤ c ∧ c ≤ 57) ∧ ∀ w, (Instr.index 9 (.string (st l)) (.int .i64 ((a : Int) + (k : Int)))).run Tryz.prog w = .ok (.int .u8 (c : Int)) w := by
    intro k hk
    have h1 : k < (l.drop a).length := by rw [List.length_drop]; omega
    have h2 := runL_dig (l.drop a) k (by omega) h1
    have h3 := isDig_of h2
    refine ⟨((l.drop a)[k]).toNat, h3, fun w => ?_⟩
    have := ix_at l (a + k) (by rw [List.length_drop] at h1; omega) w
    rw [Int.natCast_add] at this
    rw [List.getElem_drop]
    exact this
  have hno : a + R < l.length → ∃ c : Nat, ¬ (48 ≤ c ∧ c ≤ 57) ∧ ∀ w, (Instr.index 9 (.string (st l)) (.int .i64 ((a : Int) + (R : Int)))).run Tryz.prog w = .ok (.int .u8 (c : Int)) w := by
    intro hlt
    subst hR
    have h1 : runL (l.drop a) < (l.drop a).length := by rw [List.length_drop]; omega
    have h2 := runL_not (l.drop a) h1
    have h3 := isDig_not h2
    refine ⟨((l.drop a)[runL (l.drop a)]).toNat, h3, fun w => ?_⟩
    have := ix_at l (a + runL (l.drop a)) hlt w
    rw [Int.natCast_add] at this
    rw [List.getElem_drop]
    exact this
  rw [hR] at hle ⊢
  rw [hL] at hle ha hl hsz hno
  have HY := Lib.hid hyes
  have HN := Lib.hid hno
  clear hyes hno hL hR
  go_enter Tryz.func28, Tryz.ntmps28
  go_wp2
  go_loopw [5] (fun u wr => ∃ k : Nat, u = .int .i64 k ∧ k ≤ R ∧ wr = w) (fun u _ => 2000 - (intOf u).toNat)
  case atStart => exact ⟨0, rfl, Nat.zero_le _, rfl⟩
  case round =>
    obtain ⟨k, rfl, hk, rfl⟩ := hrel
    by_cases hlt : k < R
    · obtain ⟨c, hc, hix⟩ := HY.out k hlt
      have t1 : decide ((a : Int) + (k : Int) < (L : Int)) = true := by simp; omega
      have hp : (decide (48 ≤ c) && decide (c ≤ 57)) = true := by simp [hc]
      have HP := Lib.hid hp
      clear hp
      go_wp2_with (first
        | (go_at_call 68; ((with_reducible refine (uIs _ HP.out).mono ?_); rintro e w1 ⟨rfl, rfl⟩)))
      go_roundw
      case rel => exact ⟨k + 1, by simp, by omega, trivial⟩
      case measure => simp [intOf]; omega
    · obtain rfl : k = R := by omega
      by_cases hend : a + k < L
      · obtain ⟨c, hc, hix⟩ := HN.out hend
        have t1 : decide ((a : Int) + (k : Int) < (L : Int)) = true := by simp; omega
        have hp : (decide (48 ≤ c) && decide (c ≤ 57)) = false := by simp; omega
        have HP := Lib.hid hp
        clear hp
        go_wp2_with (first
          | (go_at_call 68; ((with_reducible refine (uIs _ HP.out).mono ?_); rintro e w1 ⟨rfl, rfl⟩)))
        go_ret
        exact ⟨rfl, rfl⟩
      · have t1 : decide ((a : Int) + (k : Int) < (L : Int)) = false := by simp; omega
        go_wp2
        go_ret
        exact ⟨rfl, rfl⟩

set_option maxHeartbeats 4000000 in
theorem uSmall (l : List UInt8) (w : World) (hl : l.length ≤ 3) (hd : ∀ c ∈ l, isDig c = true) : Calls Tryz.prog 69 #[.string (st l)] w fun e w' => e = .returned (.int .i64 (dval l : Nat)) ∧ w' = w := by
  have hsz : (st l).size = l.length := st_size l
  have hstep : ∀ k, k < l.length → ∃ c v u : Nat, (48 ≤ c ∧ c ≤ 57) ∧ dval (l.take k) = v ∧ dval (l.take (k + 1)) = u ∧ u = 10 * v + (c - 48) ∧ v < 1000 ∧ ∀ w, (Instr.index 9 (.string (st l)) (.int .i64 (k : Int))).run Tryz.prog w = .ok (.int .u8 (c : Int)) w := by
    intro k hk
    have h3 := isDig_of (hd _ (List.getElem_mem hk))
    have hv := dval_lt (l.take k) (fun c hc => hd c (List.mem_of_mem_take hc))
    have hp : 10 ^ (l.take k).length ≤ 10 ^ 3 := Nat.pow_le_pow_right (by decide) (by simp; omega)
    exact ⟨_, _, _, h3, rfl, rfl, dval_take l k hk, by omega, fun w => ix_at l k hk w⟩
  have h0 : dval (l.take 0) = 0 := by simp [dval_nil]
  have hL : dval (l.take l.length) = dval l := by rw [List.take_of_length_le (Nat.le_refl _)]
  obtain ⟨L, hLL⟩ : ∃ L, l.length = L := ⟨_, rfl⟩
  rw [hLL] at hsz hl hL hstep
  have HS := Lib.hid hstep
  have H0 := Lib.hid h0
  have HL := Lib.hid hL
  clear hstep h0 hL hd hLL
  go_enter Tryz.func69, Tryz.ntmps69
  go_wp2
  go_loopw [3, 4] (fun n i wr => ∃ k v : Nat, i = .int .i64 k ∧ k ≤ L ∧ n = .int .i64 v ∧ dval (l.take k) = v ∧ wr = w) (fun _ i _ => 2000 - (intOf i).toNat)
  case atStart => exact ⟨0, 0, rfl, Nat.zero_le _, rfl, H0.out, rfl⟩
  case round =>
    obtain ⟨k, v, rfl, hk, rfl, hv, rfl⟩ := hrel
    by_cases hlt : k < L
    · obtain ⟨c, v', u, hc, e1, e2, e3, hv1, hix⟩ := HS.out k hlt
      obtain rfl : v = v' := hv.symm.trans e1
      have HU := Lib.hid e2
      clear hv e1 e2
      go_wp2
      go_roundw
      case rel => exact ⟨k + 1, u, by simp, by omega, by rw [e3]; congr 1; omega, HU.out, trivial⟩
      case measure => simp [intOf]; omega
    · obtain rfl : k = L := by omega
      rw [HL.out] at hv
      subst hv
      go_wp2
      go_ret
      exact ⟨rfl, rfl⟩

def NumInv (w : World) (l : List UInt8) (k : Nat) (u : Value) (wr : World) : Prop :=
  ∃ A n c, u = .slice A n c ∧ Nm wr A n c (dval (l.take k)) ∧ Below w.heap.size w wr
set_option maxHeartbeats 4000000 in
theorem uNumber (l : List UInt8) (w : World) (hl : l.length ≤ 100) (hd : ∀ c ∈ l, isDig c = true) : Calls Tryz.prog 31 #[.string (st l)] w (P1 w 100 (dval l)) := by
  have hsz : (st l).size = l.length := st_size l
  have hlt : ∀ k, dval (l.take k) < 4294967296 ^ (l.take k).length := fun k => by
    have h1 := dval_lt (l.take k) (fun c hc => hd c (List.mem_of_mem_take hc))
    have h2 : 10 ^ (l.take k).length ≤ 4294967296 ^ (l.take k).length := Nat.pow_le_pow_left (by decide) _
    omega
  have hstep : ∀ k, k < l.length → ∃ c : Nat, (48 ≤ c ∧ c ≤ 57) ∧ dval (l.take (k + 1)) = 10 * dval (l.take k) + (c - 48) ∧ ∀ w, (Instr.index 9 (.string (st l)) (.int .i64 (k : Int))).run Tryz.prog w = .ok (.int .u8 (c : Int)) w := by
    intro k hk
    exact ⟨_, isDig_of (hd _ (List.getElem_mem hk)), dval_take l k hk, fun w => ix_at l k hk w⟩
  have HLT := Lib.hid hlt
  have HS := Lib.hid hstep
  have HL := Lib.hid (show l.take l.length = l by rw [List.take_of_length_le (Nat.le_refl _)])
  clear hd hlt hstep
  go_enter Tryz.func31, Tryz.ntmps31
  go_wp2
  go_loopw [3, 4] (fun u i wr => ∃ k : Nat, i = .int .i64 k ∧ k ≤ l.length ∧ NumInv w l k u wr) (fun _ i _ => 2000 - (intOf i).toNat)
  case atStart =>
    refine ⟨0, rfl, Nat.zero_le _, none, 0, 0, rfl, ?_, Below.refl _ _⟩
    rw [List.take_zero, dval_nil]
    exact Nm.zero
  case round =>
    obtain ⟨k, rfl, hk, A, n, c, rfl, hN, hB⟩ := hrel
    have hn : n ≤ 100 := by
      have h1 := hN.few (HLT.out k)
      have h2 : (l.take k).length ≤ l.length := by simp; omega
      omega
    by_cases hlt : k < l.length
    · obtain ⟨x, hx, hT, hix⟩ := HS.out k hlt
      have HT := Lib.hid hT
      clear hT
      go_wp2_with fail
      refine (uTen _).mono ?_
      rintro e w1 ⟨A1, n1, c1, rfl, h1, k1, B1⟩
      go_wp2_with fail
      refine (rMul (hN.rd.below B1) h1.rd (by omega) (by omega) rfl).mono ?_
      rintro e w2 ⟨A2, n2, c2, rfl, h2, k2, B2⟩
      go_wp2_with fail
      refine (rAdd (h2.rd.below (bel1 _ _)) (lit_rd w2 (x := x - 48) rfl (by omega) (by omega)) (by omega) (by omega)).mono ?_
      rintro e w3 ⟨A3, n3, c3, rfl, h3, k3, B3⟩
      have hI : NumInv w l (k + 1) (.slice A3 n3 c3) w3 := by
        refine ⟨A3, n3, c3, rfl, ?_, bt hB (bt B1 (bt B2 (bt (bel1 _ _) B3)))⟩
        rw [HT.out, Nat.mul_comm]
        exact h3
      have HI := Lib.hid hI
      clear hI B1 B2 B3 h3 h2 h1 hN
      go_wp2
      go_roundw
      case rel => exact ⟨k + 1, by simp, by omega, HI.out⟩
      case measure => simp [intOf]; omega
    · obtain rfl : k = l.length := by omega
      rw [HL.out] at hN
      go_wp2
      go_ret
      exact ⟨A, n, c, rfl, hN, hn, hB⟩
end Go.Proofs.YtdfnjhkcicnkpaaGreatDoor

/-
  What pelorusref04.Digits answers.
-/
namespace Go.Proofs.YtdfnjhkcicnkpaaGreatDoor
open Go.RowKit
set_option linter.unusedVariables false
set_option linter.unusedSimpArgs false
set_option maxRecDepth 100000

theorem Nm.one {w : World} {B : Option Addr} {m d r : Nat} (h : Nm w B m d r) (h0 : 0 < r) (h1 : r < 4294967296) : m = 1 ∧ ∃ b o, B = some ⟨b, o, none⟩ ∧ w.cell? ⟨b, o, none⟩ = some (.int .u32 (r : Int)) := by
  obtain ⟨b, h⟩ := h
  rw [limbs_one h0 h1] at h
  have hl := h.len
  simp at hl
  subst hl
  obtain ⟨o, e, hc⟩ := h.at (by decide)
  have := hc 0 (by decide)
  simp only [Nat.add_zero, List.getD_cons_zero] at this
  exact ⟨rfl, b, o, e, this⟩
theorem conv_one (W : World) {g : Nat} (hg : W.heap.size = g) (x : UInt8) {z : Int} (hz : z = (x.toNat : Int)) :
    (convert 60 9 (.slice (some ⟨g, 0, none⟩) 1 1)).run Tryz.prog (W.alloc (.cells #[.int .u8 z] 5)) = .ok (.string (st [x])) (W.alloc (.cells #[.int .u8 z] 5)) := by
  subst hz; subst hg
  have hh := heap_alloc_new W (.cells #[.int .u8 (x.toNat : Int)] 5)
  exact run_convert_bytes_back (P := Tryz.prog) (W.alloc (.cells #[.int .u8 (x.toNat : Int)] 5)) 60 9 5 ⟨W.heap.size, 0, none⟩ 1 [x] Tryz.underlying60 Tryz.underlying5 Tryz.underlying9 (fun j hj => by
    obtain rfl : j = 0 := by simp at hj; omega
    rw [Lib.add_plain, cell_of_row _ _ _ _ _ _ hh]
    rfl)
theorem st_cat (a b : List UInt8) : (st a) ++ (st b) = st (a ++ b) := by
  apply ByteArray.ext
  simp
theorem dgs_few {a n : Nat} (h : a < 4294967296 ^ n) : (dgs a).length ≤ 10 * n + 1 := by
  unfold dgs
  split
  · simp
  · rw [Lib.decDigits_length]
    refine nDig_le ?_
    have h1 : 4294967296 ^ n ≤ (10 ^ 10) ^ n := Nat.pow_le_pow_left (by decide) n
    rw [← Nat.pow_mul] at h1
    have h2 : 10 ^ (10 * n) ≤ 10 ^ (10 * n + 1) := Nat.pow_le_pow_right (by decide) (by omega)
    omega
def strLen (v : Value) : Nat := match v with
  | .string s => s.size
  | _ => 0
def DigInv (w : World) (V : Nat) (D : List UInt8) (u : Value) (wr : World) : Prop :=
  ∃ A n c v, u = .slice A n c ∧ Nm wr A n c v ∧ n ≤ 1000000 ∧ dgs v ++ D = dgs V ∧ Below w.heap.size w wr

set_option maxHeartbeats 4000000 in
theorem uDigits {w : World} {A : Option Addr} {n c a : Nat} (h : Rd w A n c a) (hn : n ≤ 100000) : Calls Tryz.prog 15 #[.slice A n c] w (PS w (Lib.decDigits a)) := by
  have hd := dec_dgs a
  have hfew := dgs_few h.bound
  by_cases ha : a = 0
  · subst ha
    go_enter Tryz.func15, Tryz.ntmps15
    go_wp2_with fail
    refine (rTrim h).mono ?_
    rintro e w1 ⟨A1, n1, c1, rfl, h1, k1, B1⟩
    obtain rfl : n1 = 0 := by have := h1.pos; omega
    go_wp2
    go_ret
    refine ⟨?_, B1⟩
    rw [hd]
    rfl
  · rw [if_neg ha] at hd
    have HD := Lib.hid hd
    have HA := Lib.hid ha
    clear hd ha
    go_enter Tryz.func15, Tryz.ntmps15
    go_wp2_with fail
    refine (rTrim h).mono ?_
    rintro e w1 ⟨A1, n1, c1, rfl, h1, k1, B1⟩
    have hn0 : 0 < n1 := h1.pos.2 (Nat.pos_of_ne_zero HA.out)
    have t0 : ((n1 : Int) == 0) = false := by simp; omega
    have HI0 := Lib.hid (show DigInv w a [] (.slice A1 n1 c1) w1 from ⟨A1, n1, c1, a, rfl, h1, by omega, by simp, B1⟩)
    clear h1 B1
    go_wp2
    go_loopw [3, 4] (fun u s wr => ∃ D : List UInt8, s = .string (st D) ∧ DigInv w a D u wr) (fun _ s _ => (dgs a).length - strLen s)
    case atStart => exact ⟨[], rfl, HI0.out⟩
    case round =>
      obtain ⟨D, rfl, A2, n2, c2, v, rfl, h2, k2, e2, B2⟩ := hrel
      have hpos := h2.pos
      have hDlen : (st D).size = D.length := st_size D
      by_cases hv : v = 0
      · subst hv
        obtain rfl : n2 = 0 := by omega
        have e3 : D = dgs a := e2
        have HE := Lib.hid (e3.trans HD.out.symm)
        clear e2 e3 hDlen
        go_wp2
        go_ret
        exact ⟨by rw [HE.out]; rfl, B2⟩
      · have hn2 : 0 < n2 := by omega
        have hstep := dgs_step hv
        have hlt : D.length < (dgs a).length := by
          have h5 : dgs v ≠ [] := fun e => hv (dgs_nil.1 e)
          have h6 : 0 < (dgs v).length := List.length_pos_iff.2 h5
          have h7 := congrArg List.length e2
          rw [List.length_append] at h7
          omega
        rw [hstep, List.append_assoc] at e2
        have HE := Lib.hid e2
        have HLT := Lib.hid hlt
        have hDb : D.length ≤ 2000000 := by omega
        have t1 : 0 < n2 := hn2
        clear e2 hstep hlt hpos
        go_wp2_with fail
        refine (uTen _).mono ?_
        rintro e w3 ⟨A3, n3, c3, rfl, h3, k3, B3⟩
        go_wp2_with fail
        refine (rDiv (h2.rd.below B3) h3.rd (by omega) (by omega) (by decide)).mono ?_
        rintro e w4 ⟨A4, n4, c4, A5, n5, c5, rfl, h4, h5, k4, k5, B4⟩
        have hBB := bt B2 (bt B3 B4)
        obtain ⟨x, hx⟩ : ∃ x, UInt8.ofNat (48 + v % 10) = x := ⟨_, rfl⟩
        have hxn : x.toNat = 48 + v % 10 := by rw [← hx]; simp; omega
        rw [hx] at HE
        have hI : ∀ W, Below w4.heap.size w4 W → DigInv w a ([x] ++ D) (.slice A4 n4 c4) W := fun W hb => ⟨A4, n4, c4, v / 10, rfl, h4.below hb, by omega, HE.out, bt hBB hb⟩
        have hlen2 : (st ([x] ++ D)).size = D.length + 1 := by rw [st_size]; simp
        have hcat := st_cat [x] D
        by_cases hr : v % 10 = 0
        · obtain rfl : n5 = 0 := by have := h5.pos; omega
          have hcv := conv_one w4 (g := w4.heap.size) rfl x (z := 48) (by omega)
          have HI := Lib.hid (hI _ (bel1 w4 (.cells #[.int .u8 48] 5)))
          clear h4 h5 h3 h2 hI hBB B3 B4 hx hxn hv
          go_wp2
          go_roundw
          case rel => exact ⟨[x] ++ D, rfl, HI.out⟩
          case measure =>
            have := HLT.out
            show (dgs a).length - (st ([x] ++ D)).size < (dgs a).length - (st D).size
            rw [hlen2, hDlen]
            omega
        · obtain ⟨rfl, b, o, rfl, hcell⟩ := h5.one (by omega) (by have := Nat.mod_lt v (by decide : 10 > 0); omega)
          obtain ⟨y, hy⟩ : ∃ y, v % 10 = y := ⟨_, rfl⟩
          have hy10 : y < 10 := by rw [← hy]; exact Nat.mod_lt v (by decide)
          rw [hy] at hcell hxn
          have hcv := conv_one w4 (g := w4.heap.size) rfl x (z := 48 + (y : Int)) (by omega)
          have HI := Lib.hid (hI _ (bel1 w4 (.cells #[.int .u8 (48 + (y : Int))] 5)))
          clear h4 h5 h3 h2 hI hBB B3 B4 hx hxn hv hr hy
          go_wp2
          go_roundw
          case rel => exact ⟨[x] ++ D, rfl, HI.out⟩
          case measure =>
            have := HLT.out
            show (dgs a).length - (st ([x] ++ D)).size < (dgs a).length - (st D).size
            rw [hlen2, hDlen]
            omega
end Go.Proofs.YtdfnjhkcicnkpaaGreatDoor
