/-
  Contracts and words that the statements' proofs rest on, several texts in one: Tf, Tg, Th.
-/
import Derived.Laws.AppendOwn
import Derived.Test.YtdfnjhkcicnkpaaGreatDoorZav
/-
  What decimal.powers makes: a slice of powers of ten.
-/
namespace Go.Proofs.YtdfnjhkcicnkpaaGreatDoor
open Go.RowKit
set_option linter.unusedVariables false
set_option maxRecDepth 100000

/-- 10 to the power 9 * 2^k. -/
def pk (k : Nat) : Nat := 10 ^ (9 * 2 ^ k)
theorem pk_zero : pk 0 = 1000000000 := by decide
theorem pk_succ (k : Nat) : pk k * pk k = pk (k + 1) := by
  unfold pk
  rw [← Nat.pow_add]
  congr 1
  rw [Nat.pow_succ]
  omega
theorem pk_pos (k : Nat) : 0 < pk k := Nat.pow_pos (by decide)
theorem pk_big (k : Nat) : 2 ^ (9 * 2 ^ k) ≤ pk k := Nat.pow_le_pow_left (by decide) _
theorem pk_len (k : Nat) : 9 * 2 ^ k < blen (pk k) := by
  have h1 := pk_big k
  have h2 := blen_lt (pk k)
  exact (Nat.pow_lt_pow_iff_right (by decide : 1 < 2)).1 (Nat.lt_of_le_of_lt h1 h2)
theorem sq_len {p m : Nat} (h : blen m < 2 * blen p - 1) : m < p * p := by
  have hp : p ≠ 0 := fun e => by subst e; rw [blen_zero] at h; omega
  have h1 := blen_le hp
  have h2 := blen_lt m
  have hb : blen p ≠ 0 := fun e => hp (blen_eq_zero.1 e)
  have h3 : 2 ^ (blen p - 1) * 2 ^ (blen p - 1) ≤ p * p := Nat.mul_le_mul h1 h1
  rw [← Nat.pow_add] at h3
  have h4 : 2 ^ blen m ≤ 2 ^ (blen p - 1 + (blen p - 1)) := Nat.pow_le_pow_right (by decide) (by omega)
  omega
theorem len_sq (p : Nat) : blen (p * p) ≤ 2 * blen p := by
  refine blen_mono_le ?_
  rw [Nat.two_mul, Nat.pow_add]
  exact Nat.mul_lt_mul'' (blen_lt p) (blen_lt p)
theorem few_blen {w : World} {A : Option Addr} {n c v K : Nat} (h : Nt w A n c v) (hv : blen v ≤ K) : n ≤ K := h.nm.few (by
  have h1 := blen_lt v
  have h2 : 2 ^ blen v ≤ 2 ^ K := Nat.pow_le_pow_right (by decide) hv
  have h3 : 2 ^ K ≤ 4294967296 ^ K := Nat.pow_le_pow_left (by decide) K
  omega)

/-- A slice of the first n powers. -/
def Pw (w : World) (A : Option Addr) (n c : Nat) : Prop := n ≤ c ∧ c ≤ 9223372036854775807 ∧ (0 < n → ∃ g cs, A = some ⟨g, 0, none⟩ ∧ w.heap[g]? = some (.cells cs 23 (0, 0)) ∧ ∀ i, i < n → ∃ B m d, cs[i]? = some (.slice B m d) ∧ Nt w B m d (pk i))
section
variable {w w' : World} {A : Option Addr} {n c : Nat}
theorem Pw.keep (h : Pw w A n c) (hk : ∀ (b : Nat) (cs : Array Value), w.heap[b]? = some (Obj.cells cs 23 (0, 0)) → w'.heap[b]? = w.heap[b]?) (hk2 : ∀ (b : Nat) (cs : Array Value), w.heap[b]? = some (Obj.cells cs 70 (0, 0)) → w'.heap[b]? = w.heap[b]?) : Pw w' A n c := by
  obtain ⟨h1, h2, h3⟩ := h
  refine ⟨h1, h2, fun hn => ?_⟩
  obtain ⟨g, cs, rfl, hg, hc⟩ := h3 hn
  refine ⟨g, cs, rfl, (hk g cs hg).trans hg, fun i hi => ?_⟩
  obtain ⟨B, m, d, e, hN⟩ := hc i hi
  exact ⟨B, m, d, e, hN.keep hk2⟩
theorem Pw.below (h : Pw w A n c) (hb : Below w.heap.size w w') : Pw w' A n c :=
  h.keep (fun b cs e => hb.block b (Array.getElem?_eq_some_iff.1 e).1) (fun b cs e => hb.block b (Array.getElem?_eq_some_iff.1 e).1)
theorem Pw.bu {B b : Nat} {l : List UInt8} (h : Pw w A n c) (hb : Bu w B b l) (hk : Kp b w w') : Pw w' A n c := by
  obtain ⟨x, hx⟩ := hb.heap
  have key : ∀ (T : TypeId), T ≠ 64 → T ≠ 5 → ∀ (k : Nat) (cs : Array Value), w.heap[k]? = some (Obj.cells cs T (0, 0)) → w'.heap[k]? = w.heap[k]? := by
    intro T h1 h2 k cs e
    rw [e]
    refine hk k _ e (fun hb => ?_) (fun c fz he => ?_)
    · cases hb
      rw [hx] at e
      simp at e
      exact h1 e.2.symm
    · simp at he
      exact h2 he.2.1
  exact h.keep (key _ (by decide) (by decide)) (key _ (by decide) (by decide))
theorem Pw.less (h : Pw w A n c) {k : Nat} (hk : k ≤ n) : Pw w A k c := by
  obtain ⟨h1, h2, h3⟩ := h
  refine ⟨by omega, h2, fun hn => ?_⟩
  obtain ⟨g, cs, e, hg, hc⟩ := h3 (by omega)
  exact ⟨g, cs, e, hg, fun i hi => hc i (by omega)⟩
end
theorem infoSl : (Tryz.prog.info? 23).map (fun i => (i.zero, i.size, i.bytes)) = some (some (.slice none 0 0), 1, 24) := by kernel_rfl
def lenV (v : Value) : Nat := match v with
  | .slice _ n _ => n
  | _ => 0
/-- Behind k rounds: the power at hand and those gathered. -/
def PwInv (w : World) (k : Nat) (vp vo : Value) (wr : World) : Prop :=
  ∃ A n c xs, vp = .slice A n c ∧ Nt wr A n c (pk k) ∧ blen (pk k) ≤ 700 ∧ wr.ownsRow w.heap.size 23 1 vo (k + 1) xs ∧ (∀ i, i < k + 1 → ∃ B m d, xs[i]? = some (.slice B m d) ∧ Nt wr B m d (pk i)) ∧ Below w.heap.size w wr

set_option maxHeartbeats 4000000 in
theorem vPowers {w : World} {A : Option Addr} {n c m : Nat} (h : Rd w A n c m) (hn : n ≤ 20) :
    Calls Tryz.prog 41 #[.slice A n c] w fun e w' => ∃ B k d, e = .returned (.slice B k d) ∧ Pw w' B k d ∧ 1 ≤ k ∧ k ≤ 20 ∧ 9 * 2 ^ k ≤ 1400 ∧ m < 10 ^ (9 * 2 ^ k) ∧ Below w.heap.size w w' := by
  have hbl := h.blen_le
  obtain ⟨y, hy⟩ : ∃ y, blen m = y := ⟨_, rfl⟩
  rw [hy] at hbl
  have hy640 : y ≤ 640 := by omega
  have HY := Lib.hid hy
  have H := Lib.hid h
  clear hy hbl h
  go_enter Tryz.func41, Tryz.ntmps41
  go_wp2
  go_loopw [3, 4] (fun vp vo wr => ∃ k : Nat, PwInv w k vp vo wr) (fun _ vo _ => 1000 - lenV vo)
  case atStart =>
    refine ⟨0, _, _, _, [.slice (some ⟨w.heap.size, 0, none⟩) 1 1], rfl, ?_, ?_, ?_, ?_, bel2 _ _ _⟩
    · rw [pk_zero]; exact (lit_nt w rfl rfl (by decide) (by decide)).below (bel1 _ _)
    · rw [pk_zero]; exact Nat.le_trans (blen_mono_le (k := 30) (by decide)) (by decide)
    · refine ⟨rfl, .inr ⟨w.heap.size + 1, 1, #[.slice (some ⟨w.heap.size, 0, none⟩) 1 1], ?_, by omega, ?_, by omega, by unfold maxLen; omega, rfl, rfl⟩⟩
      · simp
      · have := heap_alloc_new (w.alloc (.cells #[.int .u32 1000000000] 70)) (.cells #[.slice (some ⟨w.heap.size, 0, none⟩) 1 1] 23)
        simpa using this
    · intro i hi
      obtain rfl : i = 0 := by omega
      exact ⟨_, _, _, rfl, by rw [pk_zero]; exact (lit_nt w rfl rfl (by decide) (by decide)).below (bel1 _ _)⟩
  case round =>
    obtain ⟨k, Ap, np, cp, xs, rfl, hp, hb, hown, hxs, hB⟩ := hrel
    have hkl := pk_len k
    have hk2 : k < 2 ^ k := Nat.lt_two_pow_self
    obtain ⟨x, hx⟩ : ∃ x, blen (pk k) = x := ⟨_, rfl⟩
    rw [hx] at hkl hb
    have hnp : np ≤ 700 := few_blen hp (by omega)
    have HX := Lib.hid hx
    have H1 := H.out.below hB
    have hsz := hB.size
    have HB := Lib.hid hB
    have hxl := hown.1
    obtain ⟨g, cap, cur, rfl, hbg, hg, hnc, hcm, hcs, htake⟩ : ∃ g cap cur, u4 = .slice (some ⟨g, 0, none⟩) (k + 1) cap ∧ w.heap.size ≤ g ∧ wr.heap[g]? = some (.cells cur 23 (0, 0)) ∧ k + 1 ≤ cap ∧ cap ≤ maxLen ∧ cur.size = cap * 1 ∧ cur.toList.take ((k + 1) * 1) = xs := by
      rcases hown.2 with ⟨_, hz⟩ | ⟨g, cap, cur, hv, r⟩
      · omega
      · exact ⟨g, cap, cur, hv, r⟩
    obtain ⟨i0, hi, hz0, hz1, hz2⟩ := info_parts infoSl
    clear hx hB
    by_cases hlt : 2 * x - 1 ≤ y
    · have ht : decide ((2 : Int) * (x : Int) - 1 ≤ (y : Int)) = true := by simp; omega
      clear hnc hcm hcs htake hbg
      go_wp2_with (first
        | (go_at_call 58; ((with_reducible refine (vLenE hp.nm.rd (z := (x : Int)) (by rw [HX.out])).mono ?_); rintro e w1 ⟨rfl, B1⟩))
        | (go_at_call 58; ((with_reducible refine (vLenE (H1.below B1) (z := (y : Int)) (by rw [HY.out])).mono ?_); rintro e w2 ⟨rfl, B2⟩))
        | (go_at_call 67; ((with_reducible refine (vMulN (hp.nm.rd.below (bt B1 B2)) (hp.nm.rd.below (bt B1 B2)) (by omega) (by omega)).mono ?_); rintro e w3 ⟨A2, n2, c2, rfl, h2, k2, B3⟩))
        | (at_builtin; refine wpList_append_own _ rfl _ _ 66 rfl w.heap.size 23 i0 (.slice none 0 0) 1 24 Tryz.underlying66 hi hz0 hz1 hz2 rfl (by decide) _ _ _ rfl ((hown.kept (row := none) (grown_below (bt B1 (bt B2 B3)) none) (by cases (Value.slice (some ⟨g, 0, none⟩) (k + 1) cap).ownBlock <;> simp)).alloc _) ⟨w3.heap.size, 0, none⟩ 1 1 [.slice A2 n2 c2] rfl rfl ?c1 ?c2 ?c3 ?c4 ?c5 ?_))
      case c1 =>
        intro j u hj
        match j, hj with
        | 0, hj => simp at hj; subst hj; simp [Addr.add]
      case c2 => intro u hu; simp at hu; subst hu; rfl
      case c3 => unfold maxLen; omega
      case c4 => omega
      case c5 => have := (bt B1 (bt B2 B3)).size; simp; omega
      intro v' w4 hown' hgrow _
      have hB3 := bt B1 (bt B2 B3)
      have hBa := bt hB3 (bel1 w3 (.cells #[.slice A2 n2 c2] 23))
      have hgl := (Array.getElem?_eq_some_iff.1 hg).1
      have hg3 := (hBa.block g hgl).trans hg
      have key : ∀ (b : Nat) (cs : Array Value), (w3.alloc (.cells #[.slice A2 n2 c2] 23)).heap[b]? = some (Obj.cells cs 70 (0, 0)) → w4.heap[b]? = (w3.alloc (.cells #[.slice A2 n2 c2] 23)).heap[b]? := by
        intro b cs e
        refine hgrow.block b (Array.getElem?_eq_some_iff.1 e).1 (fun hb => ?_)
        simp only [Value.ownBlock, Option.some.injEq] at hb
        subst hb
        rw [hg3] at e
        simp at e
      have hrl := fun k hk => (hown.lt k hk).1
      have hBB : Below w.heap.size w w4 := (bt HB.out hBa).grown hgrow (Nat.le_trans hsz hBa.size) hrl
      rw [pk_succ] at h2
      have hI : PwInv w (k + 1) (.slice A2 n2 c2) v' w4 := by
        refine ⟨A2, n2, c2, _, rfl, (h2.below (bel1 _ _)).keep key, ?_, hown', fun i hi => ?_, hBB⟩
        · rw [← pk_succ]
          have := len_sq (pk k)
          rw [HX.out] at this
          omega
        · by_cases hik : i < k + 1
          · obtain ⟨B, q, d, e1, e2⟩ := hxs i hik
            exact ⟨B, q, d, by rw [List.getElem?_append_left (by omega)]; exact e1, (e2.below hBa).keep key⟩
          · obtain rfl : i = k + 1 := by omega
            exact ⟨A2, n2, c2, by rw [List.getElem?_append_right (by omega)]; simp [hxl], (h2.below (bel1 _ _)).keep key⟩
      obtain ⟨g', cap', rfl⟩ : ∃ g' cap', v' = .slice (some ⟨g', 0, none⟩) (k + 1 + 1) cap' := by
        rcases hown'.2 with ⟨_, h0⟩ | ⟨g', cap', cur', hv, _⟩
        · omega
        · exact ⟨g', cap', hv⟩
      have HI := Lib.hid hI
      clear hI key hg3 hgl hBa hB3 hg hrl hBB hown' hgrow hown hxs h2 hp
      go_wp2
      go_roundw
      case rel => exact ⟨k + 1, HI.out⟩
      case measure => simp [lenV]; omega
    · have ht : decide ((2 : Int) * (x : Int) - 1 ≤ (y : Int)) = false := by simp; omega
      go_wp2_with (first
        | (go_at_call 58; ((with_reducible refine (vLenE hp.nm.rd (z := (x : Int)) (by rw [HX.out])).mono ?_); rintro e w1 ⟨rfl, B1⟩))
        | (go_at_call 58; ((with_reducible refine (vLenE (H1.below B1) (z := (y : Int)) (by rw [HY.out])).mono ?_); rintro e w2 ⟨rfl, B2⟩)))
      go_ret
      have hpow : 2 ^ (k + 1) = 2 ^ k * 2 := Nat.pow_succ 2 k
      refine ⟨some ⟨g, 0, none⟩, k + 1, cap, rfl, ?_, by omega, ?_, by omega, ?_, bt HB.out (bt B1 B2)⟩
      · refine Pw.below ?_ (bt B1 B2)
        refine ⟨hnc, by unfold maxLen at hcm; omega, fun _ => ⟨g, cur, rfl, hg, fun i hi => ?_⟩⟩
        obtain ⟨B, q, d, e1, e2⟩ := hxs i hi
        refine ⟨B, q, d, ?_, e2⟩
        rw [← htake, List.getElem?_take_of_lt (by omega)] at e1
        simpa using e1
      · have : ¬ 20 ≤ k := fun h20 => by
          have := Nat.pow_le_pow_right (by decide : 0 < 2) h20
          simp at this
          omega
        omega
      · have hs := sq_len (p := pk k) (m := m) (by rw [HX.out, HY.out]; omega)
        rw [pk_succ] at hs
        exact hs
end Go.Proofs.YtdfnjhkcicnkpaaGreatDoor

/-
  What a builder's putPieces puts, and what decimal.Digits answers.
-/
namespace Go.Proofs.YtdfnjhkcicnkpaaGreatDoor
open Go.RowKit
set_option linter.unusedVariables false
set_option maxRecDepth 100000

/-- What putPieces does at a count of powers. -/
def PutsAt (n : Nat) : Prop := ∀ (w : World) (B b : Nat) (l : List UInt8) (A PA : Option Addr) (na ca pc v : Nat), Bu w B b l → Nt w A na ca v → na ≤ 1000 → Pw w PA n pc → v < pk n → l.length + 9 * 2 ^ n ≤ 100000 → B ≤ w.heap.size → Pt w → 3 < B →
  Calls Tryz.prog 40 #[.pointer (some ⟨b, 0, none⟩), .slice A na ca, .slice PA n pc] w (PW w B b (l ++ padL (9 * 2 ^ n) v) (.tuple #[]))

set_option maxHeartbeats 4000000 in
theorem puts_zero : PutsAt 0 := by
  intro w B b l A PA na ca pc v hb hm hna hp hv hl hB hP hG
  rw [pk_zero] at hv
  go_enter Tryz.func40, Tryz.ntmps40
  go_wp2_with (first
    | (go_at_call 79; ((with_reducible refine (bPutPiece hb hm hv (by omega) hB hP).mono ?_); rintro e w1 ⟨rfl, h1, B1, k1⟩)))
  go_end0
  exact ⟨rfl, h1, B1, k1⟩

set_option maxHeartbeats 4000000 in
theorem puts_succ {n : Nat} (ih : PutsAt n) {w : World} {B b : Nat} {l : List UInt8} {A PA : Option Addr} {na ca pc v : Nat} (hb : Bu w B b l) (hm : Rd w A na ca v) (hna : na ≤ 1000) (hp : Pw w PA (n + 1) pc) (hv : v < pk (n + 1)) (hl : l.length + 9 * 2 ^ (n + 1) ≤ 100000)
    (hB : B ≤ w.heap.size) (hP : Pt w) (hG : 3 < B) :
    Calls Tryz.prog 40 #[.pointer (some ⟨b, 0, none⟩), .slice A na ca, .slice PA (n + 1 : Nat) pc] w (PW w B b (l ++ padL (9 * 2 ^ (n + 1)) v) (.tuple #[])) := by
  have e2 : 9 * 2 ^ (n + 1) = 9 * 2 ^ n + 9 * 2 ^ n := by rw [Nat.pow_succ]; omega
  have hsplit := padL_split (9 * 2 ^ n) (9 * 2 ^ n) v
  rw [← e2] at hsplit
  change _ = padL (9 * 2 ^ n) (v / pk n) ++ padL (9 * 2 ^ n) (v % pk n) at hsplit
  have hq : v / pk n < pk n := by
    rw [← pk_succ] at hv
    exact Nat.div_lt_of_lt_mul hv
  have hr : v % pk n < pk n := Nat.mod_lt _ (pk_pos n)
  have hpk : pk n ≠ 0 := Nat.ne_of_gt (pk_pos n)
  have hp' : Pw w PA n pc := hp.less (Nat.le_succ n)
  have hcap := hp.1
  have hcap2 := hp.2.1
  obtain ⟨g, cs, rfl, hg, hc⟩ := hp.2.2 (Nat.succ_pos n)
  obtain ⟨D, q, d, hcn, hN⟩ := hc n (Nat.lt_succ_self n)
  have hcell : w.cell? ⟨g, n, none⟩ = some (.slice D q d) := by rw [cell_of_row _ _ _ _ _ _ hg]; exact hcn
  obtain ⟨L, hL⟩ : ∃ L, 9 * 2 ^ n = L := ⟨_, rfl⟩
  rw [hL] at e2 hsplit
  rw [e2] at hl
  have HS := Lib.hid hsplit
  have HL := Lib.hid hL
  have IH := Lib.hid ih
  have HQ := Lib.hid hq
  have HR := Lib.hid hr
  have HPK := Lib.hid hpk
  clear hsplit hL ih hc hg hp hq hr hpk hv e2
  go_enter Tryz.func40, Tryz.ntmps40
  go_wp2_with fail
  refine (vDivN hm hN.nm.rd (by omega) HPK.out).mono ?_
  rintro e w1 ⟨A1, n1, c1, A2, n2, c2, rfl, h1, h2, k1, k2, B1⟩
  have HB1 := Lib.hid B1
  have hb1 := hb.below B1
  have hp1 := hp'.below B1
  have hP1 := hP.below B1
  have hB1 : B ≤ w1.heap.size := Nat.le_trans hB B1.size
  clear hm hN hp' hcell hcn hb hP B1
  go_wp2_with fail
  refine (IH.out w1 B b l A1 _ n1 c1 pc _ hb1 h1 (by omega) hp1 HQ.out (by rw [HL.out]; omega) hB1 hP1 hG).mono ?_
  rintro e w2 ⟨rfl, hb2, B2, k2'⟩
  have hp2 := hp1.bu hb1 k2'
  have h2' := h2.bu hb1 k2'
  have hP2 := hP1.under hG B2
  have hB2 : B ≤ w2.heap.size := Nat.le_trans hB1 B2.size
  have HX := Lib.hid (And.intro ((HB1.out.mono hB).trans B2) ((Kp.of HB1.out).trans k2'))
  clear hb1 hp1 h1 h2 hP1 B2 k2' HB1
  go_wp2_with fail
  refine (IH.out w2 B b _ A2 _ n2 c2 pc _ hb2 h2' (by omega) hp2 HR.out (by rw [List.length_append, padL_length, HL.out]; omega) hB2 hP2 hG).mono ?_
  rintro e w3 ⟨rfl, hb3, B3, k3⟩
  go_wp2
  go_end0
  refine ⟨rfl, ?_, HX.out.1.trans B3, HX.out.2.trans k3⟩
  rw [HS.out]
  rw [HL.out, List.append_assoc] at hb3
  exact hb3
theorem bPutPieces : ∀ n, PutsAt n
  | 0 => puts_zero
  | n + 1 => fun w B b l A PA na ca pc v hb hm hna hp hv hl hB hP hG => puts_succ (bPutPieces n) hb hm.nm.rd hna hp hv hl hB hP hG
end Go.Proofs.YtdfnjhkcicnkpaaGreatDoor

/-
  What decimal.Digits answers.
-/
namespace Go.Proofs.YtdfnjhkcicnkpaaGreatDoor
open Go.RowKit
set_option linter.unusedVariables false
set_option maxRecDepth 100000

set_option maxHeartbeats 4000000 in
theorem vDigits {w : World} {A : Option Addr} {n c a : Nat} (h : Rd w A n c a) (hn : n ≤ 20) (hP : Pt w) : Calls Tryz.prog 14 #[.slice A n c] w (PS w (Lib.decDigits a)) := by
  have hb := Bu.new w rfl
  have hG := hP.lt
  go_enter Tryz.func14, Tryz.ntmps14
  go_wp2_with fail
  refine (vPowers (h.below (bel1 _ _)) hn).mono ?_
  rintro e w1 ⟨PA, k, pc, rfl, hp, hk1, hk2, hk3, hlt, B1⟩
  obtain ⟨k, rfl⟩ : ∃ j, k = j + 1 := ⟨k - 1, by omega⟩
  have hsz : w.heap.size ≤ w1.heap.size := (bt (bel1 _ _) B1).size
  have hb1 := hb.below B1
  have HB1 := Lib.hid (bt (bel1 _ _) B1)
  have h1 := h.below HB1.out
  have hP1 := hP.below HB1.out
  clear h hP hb B1
  go_wp2_with fail
  refine (puts_succ (bPutPieces k) hb1 h1 (by omega) hp hlt (by rw [List.length_nil]; omega) hsz hP1 hG).mono ?_
  rintro e w2 ⟨rfl, hb2, B2, k2⟩
  have hB2 : w.heap.size ≤ w2.heap.size := Nat.le_trans hsz B2.size
  have HX := Lib.hid ((HB1.out.mono (Nat.le_refl _)).trans B2)
  have hne : padL (9 * 2 ^ (k + 1)) a ≠ [] := by
    intro e
    have := congrArg List.length e
    rw [padL_length, List.length_nil] at this
    have h2 : 0 < 2 ^ (k + 1) := Nat.pow_pos (by decide)
    omega
  have htr := trim_pad (9 * 2 ^ (k + 1)) a (by have : 0 < 2 ^ (k + 1) := Nat.pow_pos (by decide); omega) hlt
  rw [List.nil_append] at hb2
  clear hb1 h1 hP1 hp B2 k2 hk3 hlt HB1
  generalize padL (9 * 2 ^ (k + 1)) a = L at *
  go_wp2_with fail
  refine (bString hb2 hne).mono ?_
  rintro e w3 ⟨rfl, B3⟩
  go_wp2_with fail
  refine (sTrim L _).mono ?_
  rintro e w4 ⟨rfl, rfl⟩
  rw [htr]
  have HY := Lib.hid (HX.out.trans B3)
  clear htr hne hb2 HX B3
  have hd := dec_dgs a
  by_cases ha : a = 0
  · rw [if_pos ha] at hd
    subst ha
    rw [show dgs 0 = [] from rfl]
    go_wp2
    go_ret
    refine ⟨?_, HY.out⟩
    rw [hd]
    rfl
  · rw [if_neg ha] at hd
    have hne : dgs a ≠ [] := fun e => ha (dgs_nil.1 e)
    generalize dgs a = D at *
    have hie : D.isEmpty = false := by
      cases D with
      | nil => exact absurd rfl hne
      | cons x y => rfl
    go_wp2
    go_ret
    refine ⟨?_, HY.out⟩
    rw [hd]
    rfl
end Go.Proofs.YtdfnjhkcicnkpaaGreatDoor
