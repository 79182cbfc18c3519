/-
  Contracts and words that the statement's proof rests on, several texts in one: Ch, Cj.
-/
import Derived.Below
import Derived.BigQuiet
import Derived.Carry
import Derived.Deep.DeepCutAuto
import Derived.Deep.Draws
import Derived.Deep.MidRow
import Derived.Deep.QuietTactic
import Derived.Deep.RegionHeld3
import Derived.Deep.RegionWith
import Derived.IntWalk
import Derived.Laws.CopyOwn
import Derived.Laws.MakeOwn
import Derived.Laws.OwnMore
import Derived.Laws.Rows
import Derived.Lib.BitFns
import Derived.Lib.Hide
import Derived.Maps.AppendAt
import Derived.StillTailTactics
import Derived.Test.YthhlccdmflgbbaaRows
import Derived.WalkKit
import Derived.WalkLawsBesides
import Derived.WalkSpells
import Derived.Test.YthhlccdmflgbbaaYAad
import Derived.Test.YthhlccdmflgbbaaYAae
import Derived.Test.YthhlccdmflgbbaaYAaf
import Derived.Test.YthhlccdmflgbbaaYAag
import Derived.Test.YthhlccdmflgbbaaYAai
import Derived.Test.YthhlccdmflgbbaaYAaj
import Derived.Test.YthhlccdmflgbbaaYAal
import Derived.Test.YthhlccdmflgbbaaYAam
import Derived.Test.YthhlccdmflgbbaaYAaq
/-
  What iv's ends, Meet and Hull do.
-/
namespace Go.Proofs.Ythhlccdmflgbbaa
open Go.RowKit
set_option linter.unusedVariables false
set_option linter.unusedSimpArgs false
set_option maxRecDepth 100000

theorem Na.stn {w w' : World} {base n c g : Nat} {A : Option Addr} {l : List Int} {a b : Array Value} {T : TypeId} (h : Na w base A n c l) (S : StN w w' g a b T) (hT : (T == 24) = false) : Na w' base A n c l := by
  obtain ⟨r, h1, h2⟩ := h
  refine ⟨r, ⟨h1.1, ?_⟩, h2⟩
  rcases h1.2 with h3 | ⟨g0, cap, cur, hv, hg, hh, q⟩
  · exact .inl h3
  · refine .inr ⟨g0, cap, cur, hv, hg, ?_, q⟩
    rw [S.2.2.1 g0 (fun e => ?_)]
    · exact hh
    · subst e
      have hb : w.heap[g0]? = some (.cells a T (0, 0)) := S.1
      rw [hh] at hb
      simp at hb
      rw [← hb.2] at hT
      simp at hT
theorem Bo.grownN {w w' : World} {base n c g : Nat} {A : Option Addr} {l : List Int} {a : Array Value} {T : TypeId} (X : Bo w g a T) (h : Na w base A n c l) (hT : (T == 24) = false) (G : w.grownBy w' (ownA A)) : Bo w' g a T := by
  refine X.keep (G.block g X.lt (fun e => ?_))
  obtain ⟨r, h1, h2⟩ := h
  rcases h1.2 with ⟨h3, _⟩ | ⟨g0, cap, cur, hv, hg, hh, q⟩
  · injection h3 with h4
    subst h4
    cases e
  · injection hv with h4
    subst h4
    cases e
    have hb := X
    unfold Bo at hb
    rw [hh] at hb
    simp at hb
    rw [← hb.2] at hT
    simp at hT
theorem ne_row {A A2 B B2 : Option Addr} {s1 s2 : Nat} (hne : ∀ k, ownA A = some k → ownA B ≠ some k) (a1 : ownA A2 = ownA A ∨ ownA A2 = some s1) (a2 : ownA B2 = ownA B ∨ ownA B2 = some s2) (lB : ∀ k, ownA B = some k → k < s1) (lA : ∀ k, ownA A2 = some k → k < s2) : ∀ k, ownA A2 = some k → ownA B2 ≠ some k := by
  intro k h c
  have hk := lA k h
  rcases a2 with e | e
  · rw [e] at c
    have hb := lB k c
    rcases a1 with f | f
    · rw [f] at h
      exact hne k h c
    · rw [f] at h
      injection h with h
      omega
  · rw [e] at c
    injection c with c
    omega
theorem own_ne {A B : Option Addr} (hne : ∀ k, ownA A = some k → ownA B ≠ some k) : ownA B = none ∨ ownA B ≠ ownA A := by
  rcases h : ownA B with _ | k
  · exact .inl rfl
  · exact .inr (fun c => hne k c.symm h)
theorem own_ne' {A B : Option Addr} (hne : ∀ k, ownA A = some k → ownA B ≠ some k) : ownA A = none ∨ ownA A ≠ ownA B := by
  rcases h : ownA A with _ | k
  · exact .inl rfl
  · exact .inr (fun c => hne k h c.symm)
/-- Behind k rounds: both rows of ends. -/
def EInv (w : World) (A B : Option Addr) (m c d : Nat) (la lb : List Int) (wr : World) : Prop :=
  Na wr w.heap.size A m c la ∧ Na wr w.heap.size B m d lb ∧ (∀ k, ownA A = some k → ownA B ≠ some k) ∧ Below w.heap.size w wr
set_option maxHeartbeats 8000000 in
theorem kvEnds {w : World} {A : Option Addr} {n c m : Nat} {l : List Sp} (h : Il8 w A n c l) (hm : (lowL l).length = m) : Calls Try.prog 38 #[.slice A n c] w (fun e w' => ∃ A1 c1 B1 d1, e = .returned (.tuple #[.slice A1 m c1, .slice B1 m d1]) ∧ Nl w' A1 m c1 (lowL l) ∧ Nl w' B1 m d1 (highL l) ∧ Below w.heap.size w w') := by
  have HM := Lib.hid hm
  have HLn := Lib.hid h.1
  have hcap := h.2.1
  have hbig := h.2.2.1
  have hD0 := h
  clear hm h
  go_enter Try.func38, Try.ntmps38
  go_wp2
  go_loopw [2, 3, 8] (fun va vb i wr => ∃ k A1 B1 m1 c1 d1, k ≤ n ∧ m1 ≤ k ∧ va = .slice A1 m1 c1 ∧ vb = .slice B1 m1 d1 ∧ i = .int .i64 ((k : Nat) : Int) ∧ EInv w A1 B1 m1 c1 d1 (lowL (l.take k)) (highL (l.take k)) wr) (fun _ _ i _ => n - (intOf i).toNat)
  case atStart => exact ⟨0, _, _, _, _, _, Nat.zero_le _, Nat.zero_le _, rfl, rfl, rfl, Na.nil _ _, Na.nil _ _, (fun k h => by cases h), Below.refl _ _⟩
  case round =>
    obtain ⟨k, A1, B1, m1, c1, d1, hk, hmk, rfl, rfl, rfl, N1, N2, hne, hB⟩ := hrel
    have HB := Lib.hid hB
    clear hB
    by_cases hlt : k < n
    · have tlt : decide ((k : Int) < (n : Int)) = true := by simp; omega
      have h := hD0.below HB.out
      obtain ⟨b, o, rfl, hcell⟩ := h.2.2.2 (by omega)
      obtain ⟨e, D, s, M, E, D', s', M', E', x0, x1, x2, x3, x4, x5, x6, x7, x8, hM, hM', hx⟩ := hcell k hlt
      clear hcell h hD0
      have i1 : (k : Int) < n := by omega
      have i2 : (0 : Int) ≤ k := by omega
      have hsl := lowL_take (l := l) (k := k) (by rw [HLn.out]; exact hlt)
      have hsh := highL_take (l := l) (k := k) (by rw [HLn.out]; exact hlt)
      rw [← hx] at hsl hsh
      generalize lowL (l.take k) = la at *
      generalize highL (l.take k) = lb at *
      obtain ⟨x, hX⟩ : ∃ x, rkI e D s M E D' s' M' E' = x := ⟨_, rfl⟩
      rw [hX] at hsl hsh
      have HX := Lib.hid hX
      have HSL := Lib.hid hsl
      have HSH := Lib.hid hsh
      have HNE := Lib.hid hne
      clear hsl hsh hX hx hne
      have hsz := HB.out.size
      go_upto_region 4 with (fail)
      clear x0 x1 x2 x3 x4 x5 x6 x7 x8
      have lX5 := Nat.le_refl (World.heap wr).size
      replace N1 := N1.below (bel1 _ (.cells #[.bool e, .int .i64 D, .bool s, .int .u64 M, .int .i64 E, .int .i64 D', .bool s', .int .u64 M', .int .i64 E'] 26))
      replace N2 := N2.below (bel1 _ (.cells #[.bool e, .int .i64 D, .bool s, .int .u64 M, .int .i64 E, .int .i64 D', .bool s', .int .u64 M', .int .i64 E'] 26))
      replace HB := Lib.hid (bt HB.out (bel1 _ (.cells #[.bool e, .int .i64 D, .bool s, .int .u64 M, .int .i64 E, .int .i64 D', .bool s', .int .u64 M', .int .i64 E'] 26)))
      have X5 := Bo.new wr #[.bool e, .int .i64 D, .bool s, .int .u64 M, .int .i64 E, .int .i64 D', .bool s', .int .u64 M', .int .i64 E'] 26
      generalize hWn : World.alloc wr (.cells #[.bool e, .int .i64 D, .bool s, .int .u64 M, .int .i64 E, .int .i64 D', .bool s', .int .u64 M', .int .i64 E'] 26) = w3 at *
      clear hWn
      clear lX5
      obtain ⟨xX50, xX51, xX52, xX53, xX54, xX55, xX56, xX57, xX58⟩ := X5.ce9 rfl rfl rfl rfl rfl rfl rfl rfl rfl
      go_wp2_with fail
      refine (kvOrE hM hM' HX.out).mono ?_
      rintro ee w4 ⟨e1, K1, s1, M1, E1, K1b, s1b, M1b, E1b, rfl, v1, B⟩
      clear xX50 xX51 xX52 xX53 xX54 xX55 xX56 xX57 xX58
      replace X5 := X5.below B
      replace N1 := N1.below B
      replace N2 := N2.below B
      replace HB := Lib.hid (bt HB.out B)
      clear B
      clear HX hM hM'
      obtain ⟨xX50, xX51, xX52, xX53, xX54, xX55, xX56, xX57, xX58⟩ := X5.ce9 rfl rfl rfl rfl rfl rfl rfl rfl rfl
      have zX50 := X5.frozen
      go_upto_region 5 with (fail)
      clear xX50 zX50 xX51 xX52 xX53 xX54 xX55 xX56 xX57 xX58
      have SX := StN.mk9 X5 (.bool e1) (.int .i64 K1) (.bool s1) (.int .u64 M1) (.int .i64 E1) (.int .i64 K1b) (.bool s1b) (.int .u64 M1b) (.int .i64 E1b)
      replace N1 := N1.stn SX (by decide)
      replace N2 := N2.stn SX (by decide)
      replace HB := Lib.hid (SX.below HB.out hsz)
      replace X5 := SX.box
      clear SX
      generalize (World.setCell (World.setCell (World.setCell (World.setCell (World.setCell (World.setCell (World.setCell (World.setCell (World.setCell w4 ⟨wr.heap.size, 0, none⟩ (.bool e1)) ⟨wr.heap.size, 1, none⟩ (.int .i64 K1)) ⟨wr.heap.size, 2, none⟩ (.bool s1)) ⟨wr.heap.size, 3, none⟩ (.int .u64 M1)) ⟨wr.heap.size, 4, none⟩ (.int .i64 E1)) ⟨wr.heap.size, 5, none⟩ (.int .i64 K1b)) ⟨wr.heap.size, 6, none⟩ (.bool s1b)) ⟨wr.heap.size, 7, none⟩ (.int .u64 M1b)) ⟨wr.heap.size, 8, none⟩ (.int .i64 E1b)) = w5 at *
      rcases x with _ | ⟨xa, xb⟩
      · obtain ⟨rfl, y1, y1b⟩ := v1
        have hsl2 := HSL.out
        have hsh2 := HSH.out
        have hl0 : la ++ lo1 none = la := List.append_nil la
        have hh0 : lb ++ hi1 none = lb := List.append_nil lb
        rw [hl0] at hsl2
        rw [hh0] at hsh2
        clear HSL HSH hl0 hh0
        obtain ⟨_, rfl, rfl, rfl, rfl, rfl, rfl, rfl, rfl⟩ := (show Ci true K1 s1 M1 E1 K1b s1b M1b E1b none from ⟨rfl, y1, y1b⟩).uniq Ci.none
        clear y1 y1b
        refine Jo.region_joint (T := [0, 1, 2]) (ds := [some 14, some 15, some 16]) (ls := [[], [], [0, 1]]) (k := 3) (L := [(some 14, 0), (some 15, 1), (some 16, 2)]) (fuel := 0) (J := fun wj => Below (World.heap w5).size w5 wj)
          (F := [Jo.Fact.eq (.agg #[.bool true, .int .i64 0, .bool false, .int .u64 0, .int .i64 0, .int .i64 0, .bool false, .int .u64 0, .int .i64 0]), Jo.Fact.eq (.agg #[.bool true, .int .i64 0, .bool false, .int .u64 0, .int .i64 0, .int .i64 0, .bool false, .int .u64 0, .int .i64 0]), Jo.Fact.eq (.bool false)])
          (by kernel_rfl) (by kernel_rfl) (by decide) rfl rfl (fun _ _ h b => bt h b) ((Below.refl _ _).drew) ?_ (fun vs w6 hJ hd => ?_)
        · refine Jo.jd 0 (some 14) [] (Jo.Fact.eq (.agg #[.bool true, .int .i64 0, .bool false, .int .u64 0, .int .i64 0, .int .i64 0, .bool false, .int .u64 0, .int .i64 0])) rfl rfl rfl rfl (fun vs wj hJ hd K hK => ?_) ?_
          · simp only [Jo.putl, Jo.ze, Act.put, Jo.za, Jo.zb, Jo.zc] at hK ⊢
            clear hd
            have xX50 := (X5.below hJ).a 0 (.bool true) rfl
            have xX51 := (X5.below hJ).a 1 (.int .i64 0) rfl
            have xX52 := (X5.below hJ).a 2 (.bool false) rfl
            have xX53 := (X5.below hJ).a 3 (.int .u64 0) rfl
            have xX54 := (X5.below hJ).a 4 (.int .i64 0) rfl
            have xX55 := (X5.below hJ).a 5 (.int .i64 0) rfl
            have xX56 := (X5.below hJ).a 6 (.bool false) rfl
            have xX57 := (X5.below hJ).a 7 (.int .u64 0) rfl
            have xX58 := (X5.below hJ).a 8 (.int .i64 0) rfl
            go_simp
            exact hK.out _ _ rfl (Below.refl _ _)
          refine Jo.jd 1 (some 15) [] (Jo.Fact.eq (.agg #[.bool true, .int .i64 0, .bool false, .int .u64 0, .int .i64 0, .int .i64 0, .bool false, .int .u64 0, .int .i64 0])) rfl rfl rfl rfl (fun vs wj hJ hd K hK => ?_) ?_
          · simp only [Jo.putl, Jo.ze, Act.put, Jo.za, Jo.zb, Jo.zc] at hK ⊢
            clear hd
            go_simp
            refine (kvNoneE).mono ?_
            rintro ee wk ⟨rfl, B⟩
            exact hK.out _ _ rfl B
          refine Jo.jd 2 (some 16) [(some 14, 0), (some 15, 1)] (Jo.Fact.eq (.bool false)) rfl rfl rfl rfl (fun vs wj hJ hd K hK => ?_) ?_
          · simp only [Jo.putl, Jo.zd, Jo.ze, Act.put, Jo.za, Jo.zb, Jo.zc] at hK ⊢
            rw [show vs 0 = _ from hd 0 (by decide), show vs 1 = _ from hd 1 (by decide)] at hK ⊢
            clear hd
            go_simp
            repeat' split
            all_goals exact hK.out _ _ (congrArg Value.bool (by first | rfl | (exfalso; simp_all) | simp_all)) (Below.refl _ _)
          exact Jo.Steps.nil
        simp only [Jo.putl, Jo.zd, Jo.ze, Act.put, Jo.za, Jo.zb, Jo.zc]
        rw [show vs 0 = _ from hd 0 (by decide), show vs 1 = _ from hd 1 (by decide), show vs 2 = _ from hd 2 (by decide)]
        clear hd
        replace X5 := X5.below hJ
        replace N1 := N1.below hJ
        replace N2 := N2.below hJ
        replace HB := Lib.hid (bt HB.out hJ)
        refine Jo.jdone (by kernel_rfl) ?_
        go_wp2
        go_roundw
        case rel => exact ⟨k + 1, _, _, _, _, _, by omega, by omega, rfl, rfl, by go_num, by rw [hsl2]; exact N1, by rw [hsh2]; exact N2, HNE.out, HB.out⟩
        case measure => simp [intOf]; omega
      · obtain ⟨rfl, a1, b1, o1, o1l, o1h⟩ := v1
        have hsl2 : _ = la ++ [xa] := HSL.out
        have hsh2 : _ = lb ++ [xb] := HSH.out
        clear HSL HSH o1 o1l o1h
        refine Jo.region_joint (T := [0, 1, 2]) (ds := [some 14, some 15, some 16]) (ls := [[], [], [0, 1]]) (k := 3) (L := [(some 14, 0), (some 15, 1), (some 16, 2)]) (fuel := 0) (J := fun wj => Below (World.heap w5).size w5 wj)
          (F := [Jo.Fact.eq (.agg #[.bool false, .int .i64 K1, .bool s1, .int .u64 M1, .int .i64 E1, .int .i64 K1b, .bool s1b, .int .u64 M1b, .int .i64 E1b]), Jo.Fact.eq (.agg #[.bool true, .int .i64 0, .bool false, .int .u64 0, .int .i64 0, .int .i64 0, .bool false, .int .u64 0, .int .i64 0]), Jo.Fact.eq (.bool true)])
          (by kernel_rfl) (by kernel_rfl) (by decide) rfl rfl (fun _ _ h b => bt h b) ((Below.refl _ _).drew) ?_ (fun vs w6 hJ hd => ?_)
        · refine Jo.jd 0 (some 14) [] (Jo.Fact.eq (.agg #[.bool false, .int .i64 K1, .bool s1, .int .u64 M1, .int .i64 E1, .int .i64 K1b, .bool s1b, .int .u64 M1b, .int .i64 E1b])) rfl rfl rfl rfl (fun vs wj hJ hd K hK => ?_) ?_
          · simp only [Jo.putl, Jo.ze, Act.put, Jo.za, Jo.zb, Jo.zc] at hK ⊢
            clear hd
            have xX50 := (X5.below hJ).a 0 (.bool false) rfl
            have xX51 := (X5.below hJ).a 1 (.int .i64 K1) rfl
            have xX52 := (X5.below hJ).a 2 (.bool s1) rfl
            have xX53 := (X5.below hJ).a 3 (.int .u64 M1) rfl
            have xX54 := (X5.below hJ).a 4 (.int .i64 E1) rfl
            have xX55 := (X5.below hJ).a 5 (.int .i64 K1b) rfl
            have xX56 := (X5.below hJ).a 6 (.bool s1b) rfl
            have xX57 := (X5.below hJ).a 7 (.int .u64 M1b) rfl
            have xX58 := (X5.below hJ).a 8 (.int .i64 E1b) rfl
            go_simp
            exact hK.out _ _ rfl (Below.refl _ _)
          refine Jo.jd 1 (some 15) [] (Jo.Fact.eq (.agg #[.bool true, .int .i64 0, .bool false, .int .u64 0, .int .i64 0, .int .i64 0, .bool false, .int .u64 0, .int .i64 0])) rfl rfl rfl rfl (fun vs wj hJ hd K hK => ?_) ?_
          · simp only [Jo.putl, Jo.ze, Act.put, Jo.za, Jo.zb, Jo.zc] at hK ⊢
            clear hd
            go_simp
            refine (kvNoneE).mono ?_
            rintro ee wk ⟨rfl, B⟩
            exact hK.out _ _ rfl B
          refine Jo.jd 2 (some 16) [(some 14, 0), (some 15, 1)] (Jo.Fact.eq (.bool true)) rfl rfl rfl rfl (fun vs wj hJ hd K hK => ?_) ?_
          · simp only [Jo.putl, Jo.zd, Jo.ze, Act.put, Jo.za, Jo.zb, Jo.zc] at hK ⊢
            rw [show vs 0 = _ from hd 0 (by decide), show vs 1 = _ from hd 1 (by decide)] at hK ⊢
            clear hd
            go_simp
            repeat' split
            all_goals exact hK.out _ _ (congrArg Value.bool (by first | rfl | (exfalso; simp_all) | simp_all)) (Below.refl _ _)
          exact Jo.Steps.nil
        have d2 : (Jo.Fact.eq (.bool true)).P (vs 2) w6 := hd 2 (by decide)
        simp only [Jo.putl, Jo.zd, Jo.ze, Act.put, Jo.za, Jo.zb, Jo.zc]
        rw [show vs 0 = _ from hd 0 (by decide), show vs 1 = _ from hd 1 (by decide)]
        clear hd
        generalize vs 2 = u2 at d2 ⊢
        replace d2 : u2 = _ := d2
        subst d2
        replace X5 := X5.below hJ
        replace N1 := N1.below hJ
        replace N2 := N2.below hJ
        replace HB := Lib.hid (bt HB.out hJ)
        refine Jo.jdone (by kernel_rfl) ?_
        obtain ⟨xX50, xX51, xX52, xX53, xX54, xX55, xX56, xX57, xX58⟩ := X5.ce9 rfl rfl rfl rfl rfl rfl rfl rfl rfl
        go_wp2_with (at_builtin; refine wpList_na rfl _ _ rfl rfl rfl (N1.below (bel1 _ _)) a1 (Bo.new _ _ _) (by omega) (Nat.le_trans HB.out.size (bel1 _ _).size) ?_)
        intro A2 d2 w7 N1' G1 at1
        clear xX50 xX51 xX52 xX53 xX54 xX55 xX56 xX57 xX58
        have hB2 := bt HB.out (bel1 _ (.cells #[.int .i64 K1, .bool s1, .int .u64 M1, .int .i64 E1] 24))
        have N1b := N1.below (bel1 _ (.cells #[.int .i64 K1, .bool s1, .int .u64 M1, .int .i64 E1] 24))
        have N2b := N2.below (bel1 _ (.cells #[.int .i64 K1, .bool s1, .int .u64 M1, .int .i64 E1] 24))
        replace X5 := (X5.below (bel1 _ (.cells #[.int .i64 K1, .bool s1, .int .u64 M1, .int .i64 E1] 24))).grownN N1b (by decide) G1
        replace HB := Lib.hid (hB2.grown G1 hB2.size (fun k hk => (N1b.own_lt k hk).1))
        have l1 : ∀ k, ownA B1 = some k → k < w6.heap.size + 1 := fun k hk => by
          have := (N2b.own_lt k hk).2
          simpa using this
        replace N2 := N2b.kept G1 (own_ne HNE.out)
        clear N1 N1b N2b G1 hB2
        obtain ⟨xX50, xX51, xX52, xX53, xX54, xX55, xX56, xX57, xX58⟩ := X5.ce9 rfl rfl rfl rfl rfl rfl rfl rfl rfl
        go_wp2_with (at_builtin; refine wpList_na rfl _ _ rfl rfl rfl (N2.below (bel1 _ _)) b1 (Bo.new _ _ _) (by omega) (Nat.le_trans HB.out.size (bel1 _ _).size) ?_)
        intro B2 d3 w8 N2' G2 at2
        clear xX50 xX51 xX52 xX53 xX54 xX55 xX56 xX57 xX58
        have hB2 := bt HB.out (bel1 _ (.cells #[.int .i64 K1b, .bool s1b, .int .u64 M1b, .int .i64 E1b] 24))
        have N2b := N2.below (bel1 _ (.cells #[.int .i64 K1b, .bool s1b, .int .u64 M1b, .int .i64 E1b] 24))
        have N1b := N1'.below (bel1 _ (.cells #[.int .i64 K1b, .bool s1b, .int .u64 M1b, .int .i64 E1b] 24))
        have lA : ∀ k, ownA A2 = some k → k < w7.heap.size + 1 := fun k hk => by
          have := (N1b.own_lt k hk).2
          simpa using this
        have hne2 : ∀ k, ownA A2 = some k → ownA B2 ≠ some k := ne_row HNE.out at1 at2 l1 lA
        have hne1 : ∀ k, ownA A2 = some k → ownA B1 ≠ some k := ne_row HNE.out at1 (.inl rfl) l1 lA
        replace HB := Lib.hid (hB2.grown G2 hB2.size (fun k hk => (N2b.own_lt k hk).1))
        replace N1' := N1b.kept G2 (own_ne' hne1)
        clear N1b N2b G2 hB2 hne1 X5 N2 l1 lA at1 at2
        go_wp2
        go_roundw
        case rel => exact ⟨k + 1, _, _, _, _, _, by omega, by omega, rfl, rfl, by go_num, by rw [hsl2]; exact N1', by rw [hsh2]; exact N2', hne2, HB.out⟩
        case measure => simp [intOf]; omega
    · obtain rfl : k = n := by omega
      have tlt : decide ((k : Int) < (k : Int)) = false := by simp
      have e1 : l.take k = l := List.take_of_length_le (by rw [HLn.out]; omega)
      rw [e1] at N1 N2
      obtain rfl : m1 = m := by rw [← HM.out]; exact N1.len.symm
      have M1 := N1.nl (by omega)
      have M2 := N2.nl (by omega)
      clear N1 N2
      go_wp2
      go_ret2
      exact ⟨_, _, _, _, rfl, M1, M2, HB.out⟩
set_option maxHeartbeats 4000000 in
theorem kvMeet {w : World} {A : Option Addr} {n c : Nat} {l : List Sp} {z : Sp} (h : Il8 w A n c l) (hr : meetL l = z) : Calls Try.prog 23 #[.slice A n c] w (PV w z) := by
  obtain ⟨m, hm⟩ : ∃ m, (lowL l).length = m := ⟨_, rfl⟩
  have hln := h.1
  have hle := len_lo l
  have hok := h.ok
  have HM := Lib.hid hm
  go_enter Try.func23, Try.ntmps23
  go_upto_region 1 with (fail)
  have XR := (Bo.newAt w (g := w.heap.size) (by simp) #[.bool false, .int .i64 0, .bool false, .int .u64 0, .int .i64 0, .int .i64 0, .bool false, .int .u64 0, .int .i64 0] 26)
  have HB := Lib.hid (bel1 w (.cells #[.bool false, .int .i64 0, .bool false, .int .u64 0, .int .i64 0, .int .i64 0, .bool false, .int .u64 0, .int .i64 0] 26))
  replace h := h.below HB.out
  generalize hW1 : (w.alloc (.cells #[.bool false, .int .i64 0, .bool false, .int .u64 0, .int .i64 0, .int .i64 0, .bool false, .int .u64 0, .int .i64 0] 26)) = w1 at *
  clear hW1
  go_wp2_with fail
  refine (kvEnds h HM.out).mono ?_
  rintro ee w2 ⟨A1, c1, B1, d1, rfl, N1, N2, B⟩
  replace XR := XR.below B
  replace h := h.below B
  replace HB := Lib.hid (bt HB.out B)
  clear B
  clear h
  by_cases hl : m < n
  · rw [meet_no (by omega)] at hr
    obtain rfl : none = z := hr
    have tl : decide ((m : Int) < (n : Int)) = true := by simp; omega
    clear hm hle hln hok
    go_wp2_with fail
    refine (kvNoneE).mono ?_
    rintro ee w3 ⟨rfl, B⟩
    replace XR := XR.below B
    replace N1 := N1.below B
    replace N2 := N2.below B
    replace HB := Lib.hid (bt HB.out B)
    clear B
    clear N1 N2
    obtain ⟨xXR0, xXR1, xXR2, xXR3, xXR4, xXR5, xXR6, xXR7, xXR8⟩ := XR.ce9 rfl rfl rfl rfl rfl rfl rfl rfl rfl
    have zXR0 := XR.frozen
    go_wp2
    clear xXR0 zXR0 xXR1 xXR2 xXR3 xXR4 xXR5 xXR6 xXR7 xXR8
    have SX := StN.mk9 XR (.bool true) (.int .i64 0) (.bool false) (.int .u64 0) (.int .i64 0) (.int .i64 0) (.bool false) (.int .u64 0) (.int .i64 0)
    exact bodyPost_ret (v := .agg #[.bool true, .int .i64 0, .bool false, .int .u64 0, .int .i64 0, .int .i64 0, .bool false, .int .u64 0, .int .i64 0]) (by simp [results, Try.results23, go_sem, SX.box.cell]) rfl ⟨_, _, _, _, _, _, _, _, _, rfl, Ci.none, (SX.below HB.out (by omega))⟩
  · have hr2 := (meet_some (by omega)).symm.trans hr
    have tl : decide ((m : Int) < (n : Int)) = false := by simp; omega
    clear hr
    obtain ⟨u, hu⟩ : ∃ u, mxp (lowL l) = u := ⟨_, rfl⟩
    obtain ⟨v, hv⟩ : ∃ v, mnp (highL l) = v := ⟨_, rfl⟩
    rw [hu, hv] at hr2
    have HU := Lib.hid hu
    have HVV := Lib.hid hv
    have HR := Lib.hid hr2
    clear hu hv hr2 hm hle hln hok
    go_wp2_with fail
    refine (nMost N1 HU.out).mono ?_
    rintro ee w3 ⟨K1, s1, M1, E1, rfl, q1, B⟩
    replace XR := XR.below B
    replace N1 := N1.below B
    replace N2 := N2.below B
    replace HB := Lib.hid (bt HB.out B)
    clear B
    go_wp2_with fail
    refine (nLeast N2 HVV.out).mono ?_
    rintro ee w4 ⟨K2, s2, M2, E2, rfl, q2, B⟩
    replace XR := XR.below B
    replace N1 := N1.below B
    replace N2 := N2.below B
    replace HB := Lib.hid (bt HB.out B)
    clear B
    go_wp2_with fail
    refine (kvMake q1.top q2.top q1.rk q2.rk HR.out).mono ?_
    rintro ee w5 ⟨e3, K3, s3, M3, E3, K3b, s3b, M3b, E3b, rfl, v3, B⟩
    replace XR := XR.below B
    replace N1 := N1.below B
    replace N2 := N2.below B
    replace HB := Lib.hid (bt HB.out B)
    clear B
    clear N1 N2
    obtain ⟨xXR0, xXR1, xXR2, xXR3, xXR4, xXR5, xXR6, xXR7, xXR8⟩ := XR.ce9 rfl rfl rfl rfl rfl rfl rfl rfl rfl
    have zXR0 := XR.frozen
    go_wp2
    clear xXR0 zXR0 xXR1 xXR2 xXR3 xXR4 xXR5 xXR6 xXR7 xXR8
    have SX := StN.mk9 XR (.bool e3) (.int .i64 K3) (.bool s3) (.int .u64 M3) (.int .i64 E3) (.int .i64 K3b) (.bool s3b) (.int .u64 M3b) (.int .i64 E3b)
    exact bodyPost_ret (v := .agg #[.bool e3, .int .i64 K3, .bool s3, .int .u64 M3, .int .i64 E3, .int .i64 K3b, .bool s3b, .int .u64 M3b, .int .i64 E3b]) (by simp [results, Try.results23, go_sem, SX.box.cell]) rfl ⟨_, _, _, _, _, _, _, _, _, rfl, v3, (SX.below HB.out (by omega))⟩
set_option maxHeartbeats 4000000 in
theorem kvHull {w : World} {A : Option Addr} {n c : Nat} {l : List Sp} {z : Sp} (h : Il8 w A n c l) (hr : hullL l = z) : Calls Try.prog 24 #[.slice A n c] w (PV w z) := by
  obtain ⟨m, hm⟩ : ∃ m, (lowL l).length = m := ⟨_, rfl⟩
  have hln := h.1
  have hle := len_lo l
  have hok := h.ok
  have HM := Lib.hid hm
  go_enter Try.func24, Try.ntmps24
  go_upto_region 1 with (fail)
  have XR := (Bo.newAt w (g := w.heap.size) (by simp) #[.bool false, .int .i64 0, .bool false, .int .u64 0, .int .i64 0, .int .i64 0, .bool false, .int .u64 0, .int .i64 0] 26)
  have HB := Lib.hid (bel1 w (.cells #[.bool false, .int .i64 0, .bool false, .int .u64 0, .int .i64 0, .int .i64 0, .bool false, .int .u64 0, .int .i64 0] 26))
  replace h := h.below HB.out
  generalize hW1 : (w.alloc (.cells #[.bool false, .int .i64 0, .bool false, .int .u64 0, .int .i64 0, .int .i64 0, .bool false, .int .u64 0, .int .i64 0] 26)) = w1 at *
  clear hW1
  go_wp2_with fail
  refine (kvEnds h HM.out).mono ?_
  rintro ee w2 ⟨A1, c1, B1, d1, rfl, N1, N2, B⟩
  replace XR := XR.below B
  replace h := h.below B
  replace HB := Lib.hid (bt HB.out B)
  clear B
  clear h
  have hr2 := (hull_ends hok).symm.trans hr
  clear hr
  obtain ⟨u, hu⟩ : ∃ u, mnp (lowL l) = u := ⟨_, rfl⟩
  obtain ⟨v, hv⟩ : ∃ v, mxp (highL l) = v := ⟨_, rfl⟩
  rw [hu, hv] at hr2
  have HU := Lib.hid hu
  have HVV := Lib.hid hv
  have HR := Lib.hid hr2
  clear hu hv hr2 hm hle hln hok
  go_wp2_with fail
  refine (nLeast N1 HU.out).mono ?_
  rintro ee w3 ⟨K1, s1, M1, E1, rfl, q1, B⟩
  replace XR := XR.below B
  replace N1 := N1.below B
  replace N2 := N2.below B
  replace HB := Lib.hid (bt HB.out B)
  clear B
  go_wp2_with fail
  refine (nMost N2 HVV.out).mono ?_
  rintro ee w4 ⟨K2, s2, M2, E2, rfl, q2, B⟩
  replace XR := XR.below B
  replace N1 := N1.below B
  replace N2 := N2.below B
  replace HB := Lib.hid (bt HB.out B)
  clear B
  go_wp2_with fail
  refine (kvMake q1.top q2.top q1.rk q2.rk HR.out).mono ?_
  rintro ee w5 ⟨e3, K3, s3, M3, E3, K3b, s3b, M3b, E3b, rfl, v3, B⟩
  replace XR := XR.below B
  replace N1 := N1.below B
  replace N2 := N2.below B
  replace HB := Lib.hid (bt HB.out B)
  clear B
  clear N1 N2
  obtain ⟨xXR0, xXR1, xXR2, xXR3, xXR4, xXR5, xXR6, xXR7, xXR8⟩ := XR.ce9 rfl rfl rfl rfl rfl rfl rfl rfl rfl
  have zXR0 := XR.frozen
  go_wp2
  clear xXR0 zXR0 xXR1 xXR2 xXR3 xXR4 xXR5 xXR6 xXR7 xXR8
  have SX := StN.mk9 XR (.bool e3) (.int .i64 K3) (.bool s3) (.int .u64 M3) (.int .i64 E3) (.int .i64 K3b) (.bool s3b) (.int .u64 M3b) (.int .i64 E3b)
  exact bodyPost_ret (v := .agg #[.bool e3, .int .i64 K3, .bool s3, .int .u64 M3, .int .i64 E3, .int .i64 K3b, .bool s3b, .int .u64 M3b, .int .i64 E3b]) (by simp [results, Try.results24, go_sem, SX.box.cell]) rfl ⟨_, _, _, _, _, _, _, _, _, rfl, v3, (SX.below HB.out (by omega))⟩
end Go.Proofs.Ythhlccdmflgbbaa

/-
  What every statement of layer 8 begins with: the chapter's examples.
-/
namespace Go.Proofs.Ythhlccdmflgbbaa
open Go.RowKit
set_option linter.unusedVariables false
set_option linter.unusedSimpArgs false
set_option maxRecDepth 100000

/-- The cells of some interval, and what it is taken for. -/
def Rw (e : Bool) (K : Int) (s : Bool) (M E K' : Int) (s' : Bool) (M' E' : Int) (x : Sp) : Prop := M < 18446744073709551616 ∧ M' < 18446744073709551616 ∧ rkI e K s M E K' s' M' E' = x
theorem Ci.rw {e : Bool} {K M E K' M' E' : Int} {s s' : Bool} {x : Sp} (h : Ci e K s M E K' s' M' E' x) : Rw e K s M E K' s' M' E' x := ⟨h.top.1, h.top.2, h.rk⟩
def Jo.Fact.il8 (n : Nat) (l : List Sp) : Jo.Fact := ⟨fun v w => ∃ A c, v = .slice A n c ∧ Il8 w A n c l, fun v w w' h b => by
  obtain ⟨A, c, e, h⟩ := h
  exact ⟨A, c, e, h.below b⟩⟩
theorem Il8.lit1 {W : World} {h : Nat} {K1 M1 E1 G1 P1 Q1 : Int} {e1 s1 g1 : Bool} {x1 : Sp} (hg : W.heap.size = h) (v1 : Rw e1 K1 s1 M1 E1 G1 g1 P1 Q1 x1) :
    Il8 (W.alloc (.cells #[.bool e1, .int .i64 K1, .bool s1, .int .u64 M1, .int .i64 E1, .int .i64 G1, .bool g1, .int .u64 P1, .int .i64 Q1] 26)) (some ⟨h, 0, none⟩) 1 1 [x1] := by
  subst hg
  have hh := heap_alloc_new W (.cells #[.bool e1, .int .i64 K1, .bool s1, .int .u64 M1, .int .i64 E1, .int .i64 G1, .bool g1, .int .u64 P1, .int .i64 Q1] 26)
  refine ⟨rfl, Nat.le_refl _, by decide, fun _ => ⟨_, 0, rfl, fun k hk => ?_⟩⟩
  obtain rfl : k = 0 := by omega
  exact ⟨e1, K1, s1, M1, E1, G1, g1, P1, Q1, by rw [cell_of_row _ _ _ _ _ _ hh]; rfl, by rw [cell_of_row _ _ _ _ _ _ hh]; rfl, by rw [cell_of_row _ _ _ _ _ _ hh]; rfl, by rw [cell_of_row _ _ _ _ _ _ hh]; rfl, by rw [cell_of_row _ _ _ _ _ _ hh]; rfl, by rw [cell_of_row _ _ _ _ _ _ hh]; rfl, by rw [cell_of_row _ _ _ _ _ _ hh]; rfl, by rw [cell_of_row _ _ _ _ _ _ hh]; rfl, by rw [cell_of_row _ _ _ _ _ _ hh]; rfl, v1.1, v1.2.1, v1.2.2⟩
theorem Il8.lit2 {W : World} {h : Nat} {K1 M1 E1 G1 P1 Q1 K2 M2 E2 G2 P2 Q2 : Int} {e1 s1 g1 e2 s2 g2 : Bool} {x1 x2 : Sp} (hg : W.heap.size = h) (v1 : Rw e1 K1 s1 M1 E1 G1 g1 P1 Q1 x1) (v2 : Rw e2 K2 s2 M2 E2 G2 g2 P2 Q2 x2) :
    Il8 (W.alloc (.cells #[.bool e1, .int .i64 K1, .bool s1, .int .u64 M1, .int .i64 E1, .int .i64 G1, .bool g1, .int .u64 P1, .int .i64 Q1, .bool e2, .int .i64 K2, .bool s2, .int .u64 M2, .int .i64 E2, .int .i64 G2, .bool g2, .int .u64 P2, .int .i64 Q2] 26)) (some ⟨h, 0, none⟩) 2 2 [x1, x2] := by
  subst hg
  have hh := heap_alloc_new W (.cells #[.bool e1, .int .i64 K1, .bool s1, .int .u64 M1, .int .i64 E1, .int .i64 G1, .bool g1, .int .u64 P1, .int .i64 Q1, .bool e2, .int .i64 K2, .bool s2, .int .u64 M2, .int .i64 E2, .int .i64 G2, .bool g2, .int .u64 P2, .int .i64 Q2] 26)
  refine ⟨rfl, Nat.le_refl _, by decide, fun _ => ⟨_, 0, rfl, fun k hk => ?_⟩⟩
  rcases (by omega : k = 0 ∨ k = 1) with rfl | rfl
  · exact ⟨e1, K1, s1, M1, E1, G1, g1, P1, Q1, by rw [cell_of_row _ _ _ _ _ _ hh]; rfl, by rw [cell_of_row _ _ _ _ _ _ hh]; rfl, by rw [cell_of_row _ _ _ _ _ _ hh]; rfl, by rw [cell_of_row _ _ _ _ _ _ hh]; rfl, by rw [cell_of_row _ _ _ _ _ _ hh]; rfl, by rw [cell_of_row _ _ _ _ _ _ hh]; rfl, by rw [cell_of_row _ _ _ _ _ _ hh]; rfl, by rw [cell_of_row _ _ _ _ _ _ hh]; rfl, by rw [cell_of_row _ _ _ _ _ _ hh]; rfl, v1.1, v1.2.1, v1.2.2⟩
  · exact ⟨e2, K2, s2, M2, E2, G2, g2, P2, Q2, by rw [cell_of_row _ _ _ _ _ _ hh]; rfl, by rw [cell_of_row _ _ _ _ _ _ hh]; rfl, by rw [cell_of_row _ _ _ _ _ _ hh]; rfl, by rw [cell_of_row _ _ _ _ _ _ hh]; rfl, by rw [cell_of_row _ _ _ _ _ _ hh]; rfl, by rw [cell_of_row _ _ _ _ _ _ hh]; rfl, by rw [cell_of_row _ _ _ _ _ _ hh]; rfl, by rw [cell_of_row _ _ _ _ _ _ hh]; rfl, by rw [cell_of_row _ _ _ _ _ _ hh]; rfl, v2.1, v2.2.1, v2.2.2⟩
theorem Il8.lit3 {W : World} {h : Nat} {K1 M1 E1 G1 P1 Q1 K2 M2 E2 G2 P2 Q2 K3 M3 E3 G3 P3 Q3 : Int} {e1 s1 g1 e2 s2 g2 e3 s3 g3 : Bool} {x1 x2 x3 : Sp} (hg : W.heap.size = h) (v1 : Rw e1 K1 s1 M1 E1 G1 g1 P1 Q1 x1) (v2 : Rw e2 K2 s2 M2 E2 G2 g2 P2 Q2 x2) (v3 : Rw e3 K3 s3 M3 E3 G3 g3 P3 Q3 x3) :
    Il8 (W.alloc (.cells #[.bool e1, .int .i64 K1, .bool s1, .int .u64 M1, .int .i64 E1, .int .i64 G1, .bool g1, .int .u64 P1, .int .i64 Q1, .bool e2, .int .i64 K2, .bool s2, .int .u64 M2, .int .i64 E2, .int .i64 G2, .bool g2, .int .u64 P2, .int .i64 Q2, .bool e3, .int .i64 K3, .bool s3, .int .u64 M3, .int .i64 E3, .int .i64 G3, .bool g3, .int .u64 P3, .int .i64 Q3] 26)) (some ⟨h, 0, none⟩) 3 3 [x1, x2, x3] := by
  subst hg
  have hh := heap_alloc_new W (.cells #[.bool e1, .int .i64 K1, .bool s1, .int .u64 M1, .int .i64 E1, .int .i64 G1, .bool g1, .int .u64 P1, .int .i64 Q1, .bool e2, .int .i64 K2, .bool s2, .int .u64 M2, .int .i64 E2, .int .i64 G2, .bool g2, .int .u64 P2, .int .i64 Q2, .bool e3, .int .i64 K3, .bool s3, .int .u64 M3, .int .i64 E3, .int .i64 G3, .bool g3, .int .u64 P3, .int .i64 Q3] 26)
  refine ⟨rfl, Nat.le_refl _, by decide, fun _ => ⟨_, 0, rfl, fun k hk => ?_⟩⟩
  rcases (by omega : k = 0 ∨ k = 1 ∨ k = 2) with rfl | rfl | rfl
  · exact ⟨e1, K1, s1, M1, E1, G1, g1, P1, Q1, by rw [cell_of_row _ _ _ _ _ _ hh]; rfl, by rw [cell_of_row _ _ _ _ _ _ hh]; rfl, by rw [cell_of_row _ _ _ _ _ _ hh]; rfl, by rw [cell_of_row _ _ _ _ _ _ hh]; rfl, by rw [cell_of_row _ _ _ _ _ _ hh]; rfl, by rw [cell_of_row _ _ _ _ _ _ hh]; rfl, by rw [cell_of_row _ _ _ _ _ _ hh]; rfl, by rw [cell_of_row _ _ _ _ _ _ hh]; rfl, by rw [cell_of_row _ _ _ _ _ _ hh]; rfl, v1.1, v1.2.1, v1.2.2⟩
  · exact ⟨e2, K2, s2, M2, E2, G2, g2, P2, Q2, by rw [cell_of_row _ _ _ _ _ _ hh]; rfl, by rw [cell_of_row _ _ _ _ _ _ hh]; rfl, by rw [cell_of_row _ _ _ _ _ _ hh]; rfl, by rw [cell_of_row _ _ _ _ _ _ hh]; rfl, by rw [cell_of_row _ _ _ _ _ _ hh]; rfl, by rw [cell_of_row _ _ _ _ _ _ hh]; rfl, by rw [cell_of_row _ _ _ _ _ _ hh]; rfl, by rw [cell_of_row _ _ _ _ _ _ hh]; rfl, by rw [cell_of_row _ _ _ _ _ _ hh]; rfl, v2.1, v2.2.1, v2.2.2⟩
  · exact ⟨e3, K3, s3, M3, E3, G3, g3, P3, Q3, by rw [cell_of_row _ _ _ _ _ _ hh]; rfl, by rw [cell_of_row _ _ _ _ _ _ hh]; rfl, by rw [cell_of_row _ _ _ _ _ _ hh]; rfl, by rw [cell_of_row _ _ _ _ _ _ hh]; rfl, by rw [cell_of_row _ _ _ _ _ _ hh]; rfl, by rw [cell_of_row _ _ _ _ _ _ hh]; rfl, by rw [cell_of_row _ _ _ _ _ _ hh]; rfl, by rw [cell_of_row _ _ _ _ _ _ hh]; rfl, by rw [cell_of_row _ _ _ _ _ _ hh]; rfl, v3.1, v3.2.1, v3.2.2⟩
set_option maxHeartbeats 1000000 in
theorem kvOf {w : World} {a b oa ob : Int} {x : Sp} (a1 : -9223372036854775808 ≤ a) (a2 : a ≤ 9223372036854775807) (b1 : -9223372036854775808 ≤ b) (b2 : b ≤ 9223372036854775807) (ha : sgi (decide (a < 0)) (lo a.natAbs 0) = oa) (hb : sgi (decide (b < 0)) (lo b.natAbs 0) = ob) (hx : mkI oa ob = x) : Calls Try.prog 27 #[.int .i64 a, .int .i64 b] w (PV w x) := by
  have HA := Lib.hid ha
  have HBB := Lib.hid hb
  have HX := Lib.hid hx
  clear ha hb hx
  go_enter Try.func27, Try.ntmps27
  go_upto_region 1 with (fail)
  have XR := (Bo.newAt w (g := w.heap.size) (by simp) #[.bool false, .int .i64 0, .bool false, .int .u64 0, .int .i64 0, .int .i64 0, .bool false, .int .u64 0, .int .i64 0] 26)
  have HB := Lib.hid (bel1 w (.cells #[.bool false, .int .i64 0, .bool false, .int .u64 0, .int .i64 0, .int .i64 0, .bool false, .int .u64 0, .int .i64 0] 26))
  generalize hW1 : (w.alloc (.cells #[.bool false, .int .i64 0, .bool false, .int .u64 0, .int .i64 0, .int .i64 0, .bool false, .int .u64 0, .int .i64 0] 26)) = w1 at *
  clear hW1
  go_wp2_with fail
  refine (nOf _ a1 a2 HA.out).mono ?_
  rintro ee w2 ⟨K1, s1, M1, E1, rfl, q1, B⟩
  replace XR := XR.below B
  replace HB := Lib.hid (bt HB.out B)
  clear B
  go_wp2_with fail
  refine (nOf _ b1 b2 HBB.out).mono ?_
  rintro ee w3 ⟨K2, s2, M2, E2, rfl, q2, B⟩
  replace XR := XR.below B
  replace HB := Lib.hid (bt HB.out B)
  clear B
  go_wp2_with fail
  refine (kvMake q1.top q2.top q1.rk q2.rk HX.out).mono ?_
  rintro ee w4 ⟨e3, K3, s3, M3, E3, K3b, s3b, M3b, E3b, rfl, v3, B⟩
  replace XR := XR.below B
  replace HB := Lib.hid (bt HB.out B)
  clear B
  obtain ⟨xXR0, xXR1, xXR2, xXR3, xXR4, xXR5, xXR6, xXR7, xXR8⟩ := XR.ce9 rfl rfl rfl rfl rfl rfl rfl rfl rfl
  have zXR0 := XR.frozen
  go_wp2
  clear xXR0 zXR0 xXR1 xXR2 xXR3 xXR4 xXR5 xXR6 xXR7 xXR8
  have SX := StN.mk9 XR (.bool e3) (.int .i64 K3) (.bool s3) (.int .u64 M3) (.int .i64 E3) (.int .i64 K3b) (.bool s3b) (.int .u64 M3b) (.int .i64 E3b)
  exact bodyPost_ret (v := .agg #[.bool e3, .int .i64 K3, .bool s3, .int .u64 M3, .int .i64 E3, .int .i64 K3b, .bool s3b, .int .u64 M3b, .int .i64 E3b]) (by simp [results, Try.results27, go_sem, SX.box.cell]) rfl ⟨_, _, _, _, _, _, _, _, _, rfl, v3, (SX.below HB.out (by omega))⟩
theorem fin_one8 {K M E r : Int} {s : Bool} (q : Fq K s M E r) (h0 : 0 < r) (h1 : r < 19342822337206103650074625) : K = 1 := by
  rcases q.cases with ⟨rfl, rfl, rfl, rfl, h⟩ | ⟨rfl, _⟩ | ⟨rfl, rfl, rfl, ⟨rfl, h⟩ | ⟨rfl, h⟩⟩
  · omega
  · rfl
  · omega
  · omega
theorem five : ∃ o1 o2 o3 o4 : Int, opl 0 = 0 ∧ opl 1 = o1 ∧ opl 2 = o2 ∧ opl 3 = o3 ∧ opl 4 = o4 ∧ 0 < o1 ∧ o1 < o2 ∧ o2 < o3 ∧ o3 < o4 ∧ o4 < 19342822337206103650074625 := by
  have lt : ∀ a b : Int, 0 ≤ a → a < b → b ≤ 4 → opl a < opl b := fun a b h0 h h4 => by
    have := opl_cmp (a := a) (b := b) (by omega) (by omega) (by omega) (by omega)
    rw [cmpI_lt h] at this
    rcases cmpI_tri (opl a) (opl b) with ⟨c, d⟩ | ⟨c, d⟩ | ⟨c, d⟩ <;> omega
  have z : opl 0 = 0 := rfl
  refine ⟨_, _, _, _, z, rfl, rfl, rfl, rfl, ?_, lt 1 2 (by decide) (by decide) (by decide), lt 2 3 (by decide) (by decide) (by decide), lt 3 4 (by decide) (by decide) (by decide), (opl_pos (n := 4) (by decide) (by decide)).2⟩
  have := lt 0 1 (by decide) (by decide) (by decide)
  rw [z] at this
  exact this
set_option maxHeartbeats 8000000 in
theorem awake8 {w : World} : Calls Try.prog 8 #[] w (PB w true) := by
  obtain ⟨o1, o2, o3, o4, e0, e1, e2, e3, e4, l1, l2, l3, l4, l5⟩ := five
  have H0 : Hid (sgi (decide ((0 : Int) < 0)) (lo (0 : Int).natAbs 0) = 0) := Lib.hid e0
  have H1 : Hid (sgi (decide ((1 : Int) < 0)) (lo (1 : Int).natAbs 0) = o1) := Lib.hid e1
  have H2 : Hid (sgi (decide ((2 : Int) < 0)) (lo (2 : Int).natAbs 0) = o2) := Lib.hid e2
  have H3 : Hid (sgi (decide ((3 : Int) < 0)) (lo (3 : Int).natAbs 0) = o3) := Lib.hid e3
  have H4 : Hid (sgi (decide ((4 : Int) < 0)) (lo (4 : Int).natAbs 0) = o4) := Lib.hid e4
  have S : ∀ {a b : Int}, a < b → 0 ≤ a → b ≤ o4 → mkI a b = some (a, b) := fun h h1 h2 => mkI_some (by omega) (by omega) (by omega)
  have M02 := Lib.hid (S (a := 0) (b := o2) (by omega) (by omega) (by omega))
  have M13 := Lib.hid (S (a := o1) (b := o3) (by omega) (by omega) (by omega))
  have M12 := Lib.hid (S (a := o1) (b := o2) (by omega) (by omega) (by omega))
  have M01 := Lib.hid (S (a := 0) (b := o1) (by omega) (by omega) (by omega))
  have M34 := Lib.hid (S (a := o3) (b := o4) (by omega) (by omega) (by omega))
  have M04 := Lib.hid (S (a := 0) (b := o4) (by omega) (by omega) (by omega))
  have HME : Hid (meetL [some (0, o2), some (o1, o3)] = some (o1, o2)) := Lib.hid (by
    show meetI (meetI allI (some (0, o2))) (some (o1, o3)) = _
    rw [meet_all (x := some (0, o2)) ⟨by omega, by omega, by omega, by omega, by omega⟩]
    show mkI (max 0 o1) (min o2 o3) = _
    rw [show max 0 o1 = o1 by omega, show min o2 o3 = o2 by omega]
    exact M12.out)
  have HHU : Hid (hullL [some (0, o1), some (o3, o4)] = some (0, o4)) := Lib.hid (by
    show mkI (min 0 o3) (max o1 o4) = _
    rw [show min 0 o3 = 0 by omega, show max o1 o4 = o4 by omega]
    exact M04.out)
  have HHA : Hid (hasI (some (o1, o2)) o2 = true) := Lib.hid (has_in (by omega) (by omega) (by omega) (by omega))
  have HLT := Lib.hid (show 0 < o1 ∧ o1 < 19342822337206103650074625 by omega)
  clear S e0 e1 e2 e3 e4 l1 l2 l3 l4 l5
  go_enter Try.func8, Try.ntmps8
  have HB := Lib.hid (Below.refl w.heap.size w)
  go_wp2_with fail
  refine (kvOf (by decide) (by decide) (by decide) (by decide) H0.out H2.out M02.out).mono ?_
  rintro ee w1 ⟨e1, K1, s1, M1, E1, K1b, s1b, M1b, E1b, rfl, v1, B⟩
  replace HB := Lib.hid (bt HB.out B)
  clear B
  go_wp2_with fail
  refine (kvOf (by decide) (by decide) (by decide) (by decide) H1.out H3.out M13.out).mono ?_
  rintro ee w2 ⟨e2, K2, s2, M2, E2, K2b, s2b, M2b, E2b, rfl, v2, B⟩
  replace HB := Lib.hid (bt HB.out B)
  clear B
  go_wp2_with fail
  refine (kvMeet (Il8.lit2 rfl v1.rw v2.rw) HME.out).mono ?_
  rintro ee w3 ⟨e3, K3, s3, M3, E3, K3b, s3b, M3b, E3b, rfl, v3, B⟩
  replace B := bt (bel1 _ _) B
  replace HB := Lib.hid (bt HB.out B)
  clear B
  clear v1 v2
  obtain ⟨rfl, a3, b3, o3a, o3l, o3h⟩ := v3
  obtain rfl : K3 = 1 := fin_one8 a3 HLT.out.1 HLT.out.2
  go_upto_region 2 with (fail)
  have lX1 := Nat.le_refl (World.heap w3).size
  replace HB := Lib.hid (bt HB.out (bel1 _ (.cells #[.bool false, .int .i64 1, .bool s3, .int .u64 M3, .int .i64 E3, .int .i64 K3b, .bool s3b, .int .u64 M3b, .int .i64 E3b] 26)))
  have X1 := Bo.new w3 #[.bool false, .int .i64 1, .bool s3, .int .u64 M3, .int .i64 E3, .int .i64 K3b, .bool s3b, .int .u64 M3b, .int .i64 E3b] 26
  generalize hWn : World.alloc w3 (.cells #[.bool false, .int .i64 1, .bool s3, .int .u64 M3, .int .i64 E3, .int .i64 K3b, .bool s3b, .int .u64 M3b, .int .i64 E3b] 26) = w4 at *
  clear hWn
  clear lX1
  have v3 : Ci false 1 s3 M3 E3 K3b s3b M3b E3b (some (o1, o2)) := ⟨rfl, a3, b3, o3a, o3l, o3h⟩
  refine Jo.region_joint (T := [0, 1, 2, 3, 4, 5, 6, 7, 8, 9, 10, 11, 12, 13, 14, 15, 16, 17, 18, 19, 20, 21, 22, 23, 24, 25, 26, 27, 28, 29, 30, 31, 32, 33]) (ds := [some 6, some 7, some 8, some 9, some 10, some 11, some 12, some 13, some 14, some 15, some 16, some 17, some 18, some 19, some 20, some 21, some 22, some 23, some 24, some 25, some 26, some 27, some 28, some 29, some 30, some 31, some 32, some 33, some 34, some 35, some 36, some 37, some 38, some 0]) (ls := [[], [], [0, 1], [2], [3], [3, 4], [3, 5], [3, 6], [7], [8], [8, 9], [8], [8, 10, 11], [8, 12], [13], [14], [14, 15], [14, 16], [14, 17], [14, 18], [19], [20], [20], [20, 21, 22], [20, 23], [20], [20, 24, 25], [20, 26], [27], [28], [28], [28, 29, 30], [28, 31], [32]]) (k := 34) (L := [(some 6, 0), (some 7, 1), (some 8, 2), (some 9, 3), (some 10, 4), (some 11, 5), (some 12, 6), (some 13, 7), (some 14, 8), (some 15, 9), (some 16, 10), (some 17, 11), (some 18, 12), (some 19, 13), (some 20, 14), (some 21, 15), (some 22, 16), (some 23, 17), (some 24, 18), (some 25, 19), (some 26, 20), (some 27, 21), (some 28, 22), (some 29, 23), (some 30, 24), (some 31, 25), (some 32, 26), (some 33, 27), (some 34, 28), (some 35, 29), (some 36, 30), (some 37, 31), (some 38, 32), (some 0, 33)]) (fuel := 0) (J := fun wj => Below (World.heap w4).size w4 wj)
    (F := [Jo.Fact.eq (.agg #[.bool false, .int .i64 1, .bool s3, .int .u64 M3, .int .i64 E3, .int .i64 K3b, .bool s3b, .int .u64 M3b, .int .i64 E3b]), Jo.Fact.iv (some (o1, o2)), Jo.Fact.eq (.bool true), Jo.Fact.eq (.bool true), Jo.Fact.eq (.pointer (some ⟨w3.heap.size, 0, none⟩)), Jo.Fact.eq (.bool false), Jo.Fact.eq (.bool true), Jo.Fact.eq (.bool true), Jo.Fact.eq (.bool true), Jo.Fact.eq (.pointer (some ⟨w3.heap.size, 1, none⟩)), Jo.Fact.eq (.agg #[.int .i64 1, .bool s3, .int .u64 M3, .int .i64 E3]), Jo.Fact.num o1, Jo.Fact.eq (.bool true), Jo.Fact.eq (.bool true), Jo.Fact.eq (.bool true), Jo.Fact.eq (.pointer (some ⟨w3.heap.size, 1, none⟩)), Jo.Fact.eq (.pointer (some ⟨w3.heap.size, 1, none⟩)), Jo.Fact.eq (.int .i64 1), Jo.Fact.eq (.bool true), Jo.Fact.eq (.bool true), Jo.Fact.eq (.bool true), Jo.Fact.iv (some (0, o1)), Jo.Fact.iv (some (o3, o4)), Jo.Fact.il8 2 [some (0, o1), some (o3, o4)], Jo.Fact.iv (some (0, o4)), Jo.Fact.iv (some (0, o4)), Jo.Fact.eq (.bool true), Jo.Fact.eq (.bool true), Jo.Fact.eq (.bool true), Jo.Fact.eq (.agg #[.bool false, .int .i64 1, .bool s3, .int .u64 M3, .int .i64 E3, .int .i64 K3b, .bool s3b, .int .u64 M3b, .int .i64 E3b]), Jo.Fact.num o2, Jo.Fact.eq (.bool true), Jo.Fact.eq (.bool true), Jo.Fact.eq (.bool true)])
    (by kernel_rfl) (by kernel_rfl) (by decide) rfl rfl (fun _ _ h b => bt h b) ((Below.refl _ _).drew) ?_ (fun vs w8 hJ hd => ?_)
  · refine Jo.jd 0 (some 6) [] (Jo.Fact.eq (.agg #[.bool false, .int .i64 1, .bool s3, .int .u64 M3, .int .i64 E3, .int .i64 K3b, .bool s3b, .int .u64 M3b, .int .i64 E3b])) rfl rfl rfl rfl (fun vs wj hJ hd K hK => ?_) ?_
    · simp only [Jo.putl, Jo.ze, Act.put, Jo.za, Jo.zb, Jo.zc] at hK ⊢
      clear hd
      have xX10 := (X1.below hJ).a 0 (.bool false) rfl
      have xX11 := (X1.below hJ).a 1 (.int .i64 1) rfl
      have xX12 := (X1.below hJ).a 2 (.bool s3) rfl
      have xX13 := (X1.below hJ).a 3 (.int .u64 M3) rfl
      have xX14 := (X1.below hJ).a 4 (.int .i64 E3) rfl
      have xX15 := (X1.below hJ).a 5 (.int .i64 K3b) rfl
      have xX16 := (X1.below hJ).a 6 (.bool s3b) rfl
      have xX17 := (X1.below hJ).a 7 (.int .u64 M3b) rfl
      have xX18 := (X1.below hJ).a 8 (.int .i64 E3b) rfl
      go_simp
      exact hK.out _ _ rfl (Below.refl _ _)
    refine Jo.jd 1 (some 7) [] (Jo.Fact.iv (some (o1, o2))) rfl rfl rfl rfl (fun vs wj hJ hd K hK => ?_) ?_
    · simp only [Jo.putl, Jo.ze, Act.put, Jo.za, Jo.zb, Jo.zc] at hK ⊢
      clear hd
      go_simp
      refine (kvOf (by decide) (by decide) (by decide) (by decide) H1.out H2.out M12.out).mono ?_
      rintro ee wk ⟨e4, K4, s4, M4, E4, K4b, s4b, M4b, E4b, rfl, v4, B⟩
      exact hK.out _ _ ⟨e4, K4, s4, M4, E4, K4b, s4b, M4b, E4b, rfl, v4⟩ B
    refine Jo.jd 2 (some 8) [(some 6, 0), (some 7, 1)] (Jo.Fact.eq (.bool true)) rfl rfl rfl rfl (fun vs wj hJ hd K hK => ?_) ?_
    · have d1 : (Jo.Fact.iv (some (o1, o2))).P (vs 1) wj := hd 1 (by decide)
      simp only [Jo.putl, Jo.zd, Jo.ze, Act.put, Jo.za, Jo.zb, Jo.zc] at hK ⊢
      rw [show vs 0 = _ from hd 0 (by decide)] at hK ⊢
      clear hd
      generalize vs 1 = u1 at hK d1 ⊢
      obtain ⟨e4, K4, s4, M4, E4, K4b, s4b, M4b, E4b, rfl, v4⟩ := d1
      obtain ⟨rfl, rfl, rfl, rfl, rfl, rfl, rfl, rfl, rfl⟩ := v3.uniq v4
      go_simp
      exact hK.out _ _ (by first | rfl | (show Value.bool _ = Value.bool _; simp)) (Below.refl _ _)
    refine Jo.jd 3 (some 9) [(some 8, 2)] (Jo.Fact.eq (.bool true)) rfl rfl rfl rfl (fun vs wj hJ hd K hK => ?_) ?_
    · simp only [Jo.putl, Jo.zd, Jo.ze, Act.put, Jo.za, Jo.zb, Jo.zc] at hK ⊢
      rw [show vs 2 = _ from hd 2 (by decide)] at hK ⊢
      clear hd
      go_simp
      exact hK.out _ _ rfl (Below.refl _ _)
    refine Jo.jd 4 (some 10) [(some 9, 3)] (Jo.Fact.eq (.pointer (some ⟨w3.heap.size, 0, none⟩))) rfl rfl rfl rfl (fun vs wj hJ hd K hK => ?_) ?_
    · simp only [Jo.putl, Jo.zd, Jo.ze, Act.put, Jo.za, Jo.zb, Jo.zc] at hK ⊢
      rw [show vs 3 = _ from hd 3 (by decide)] at hK ⊢
      clear hd
      go_simp
      exact hK.out _ _ rfl (Below.refl _ _)
    refine Jo.jd 5 (some 11) [(some 9, 3), (some 10, 4)] (Jo.Fact.eq (.bool false)) rfl rfl rfl rfl (fun vs wj hJ hd K hK => ?_) ?_
    · simp only [Jo.putl, Jo.zd, Jo.ze, Act.put, Jo.za, Jo.zb, Jo.zc] at hK ⊢
      rw [show vs 3 = _ from hd 3 (by decide), show vs 4 = _ from hd 4 (by decide)] at hK ⊢
      clear hd
      have xX10 := (X1.below hJ).a 0 (.bool false) rfl
      go_simp
      exact hK.out _ _ rfl (Below.refl _ _)
    refine Jo.jd 6 (some 12) [(some 9, 3), (some 11, 5)] (Jo.Fact.eq (.bool true)) rfl rfl rfl rfl (fun vs wj hJ hd K hK => ?_) ?_
    · simp only [Jo.putl, Jo.zd, Jo.ze, Act.put, Jo.za, Jo.zb, Jo.zc] at hK ⊢
      rw [show vs 3 = _ from hd 3 (by decide), show vs 5 = _ from hd 5 (by decide)] at hK ⊢
      clear hd
      go_simp
      exact hK.out _ _ rfl (Below.refl _ _)
    refine Jo.jd 7 (some 13) [(some 9, 3), (some 12, 6)] (Jo.Fact.eq (.bool true)) rfl rfl rfl rfl (fun vs wj hJ hd K hK => ?_) ?_
    · simp only [Jo.putl, Jo.zd, Jo.ze, Act.put, Jo.za, Jo.zb, Jo.zc] at hK ⊢
      rw [show vs 3 = _ from hd 3 (by decide), show vs 6 = _ from hd 6 (by decide)] at hK ⊢
      clear hd
      go_simp
      exact hK.out _ _ rfl (Below.refl _ _)
    refine Jo.jd 8 (some 14) [(some 13, 7)] (Jo.Fact.eq (.bool true)) rfl rfl rfl rfl (fun vs wj hJ hd K hK => ?_) ?_
    · simp only [Jo.putl, Jo.zd, Jo.ze, Act.put, Jo.za, Jo.zb, Jo.zc] at hK ⊢
      rw [show vs 7 = _ from hd 7 (by decide)] at hK ⊢
      clear hd
      go_simp
      exact hK.out _ _ rfl (Below.refl _ _)
    refine Jo.jd 9 (some 15) [(some 14, 8)] (Jo.Fact.eq (.pointer (some ⟨w3.heap.size, 1, none⟩))) rfl rfl rfl rfl (fun vs wj hJ hd K hK => ?_) ?_
    · simp only [Jo.putl, Jo.zd, Jo.ze, Act.put, Jo.za, Jo.zb, Jo.zc] at hK ⊢
      rw [show vs 8 = _ from hd 8 (by decide)] at hK ⊢
      clear hd
      go_simp
      exact hK.out _ _ rfl (Below.refl _ _)
    refine Jo.jd 10 (some 16) [(some 14, 8), (some 15, 9)] (Jo.Fact.eq (.agg #[.int .i64 1, .bool s3, .int .u64 M3, .int .i64 E3])) rfl rfl rfl rfl (fun vs wj hJ hd K hK => ?_) ?_
    · simp only [Jo.putl, Jo.zd, Jo.ze, Act.put, Jo.za, Jo.zb, Jo.zc] at hK ⊢
      rw [show vs 8 = _ from hd 8 (by decide), show vs 9 = _ from hd 9 (by decide)] at hK ⊢
      clear hd
      have xX11 := (X1.below hJ).a 1 (.int .i64 1) rfl
      have xX12 := (X1.below hJ).a 2 (.bool s3) rfl
      have xX13 := (X1.below hJ).a 3 (.int .u64 M3) rfl
      have xX14 := (X1.below hJ).a 4 (.int .i64 E3) rfl
      go_simp
      exact hK.out _ _ rfl (Below.refl _ _)
    refine Jo.jd 11 (some 17) [(some 14, 8)] (Jo.Fact.num o1) rfl rfl rfl rfl (fun vs wj hJ hd K hK => ?_) ?_
    · simp only [Jo.putl, Jo.zd, Jo.ze, Act.put, Jo.za, Jo.zb, Jo.zc] at hK ⊢
      rw [show vs 8 = _ from hd 8 (by decide)] at hK ⊢
      clear hd
      go_simp
      refine (nOf _ (by decide) (by decide) H1.out).mono ?_
      rintro ee wk ⟨K5, s5, M5, E5, rfl, q5, B⟩
      exact hK.out _ _ ⟨K5, s5, M5, E5, rfl, q5⟩ B
    refine Jo.jd 12 (some 18) [(some 14, 8), (some 16, 10), (some 17, 11)] (Jo.Fact.eq (.bool true)) rfl rfl rfl rfl (fun vs wj hJ hd K hK => ?_) ?_
    · have d11 : (Jo.Fact.num o1).P (vs 11) wj := hd 11 (by decide)
      simp only [Jo.putl, Jo.zd, Jo.ze, Act.put, Jo.za, Jo.zb, Jo.zc] at hK ⊢
      rw [show vs 8 = _ from hd 8 (by decide), show vs 10 = _ from hd 10 (by decide)] at hK ⊢
      clear hd
      generalize vs 11 = u11 at hK d11 ⊢
      obtain ⟨K5, s5, M5, E5, rfl, q5⟩ := d11
      obtain ⟨rfl, rfl, rfl, rfl⟩ := a3.uniq q5
      go_simp
      exact hK.out _ _ (by first | rfl | (show Value.bool _ = Value.bool _; simp)) (Below.refl _ _)
    refine Jo.jd 13 (some 19) [(some 14, 8), (some 18, 12)] (Jo.Fact.eq (.bool true)) rfl rfl rfl rfl (fun vs wj hJ hd K hK => ?_) ?_
    · simp only [Jo.putl, Jo.zd, Jo.ze, Act.put, Jo.za, Jo.zb, Jo.zc] at hK ⊢
      rw [show vs 8 = _ from hd 8 (by decide), show vs 12 = _ from hd 12 (by decide)] at hK ⊢
      clear hd
      go_simp
      exact hK.out _ _ rfl (Below.refl _ _)
    refine Jo.jd 14 (some 20) [(some 19, 13)] (Jo.Fact.eq (.bool true)) rfl rfl rfl rfl (fun vs wj hJ hd K hK => ?_) ?_
    · simp only [Jo.putl, Jo.zd, Jo.ze, Act.put, Jo.za, Jo.zb, Jo.zc] at hK ⊢
      rw [show vs 13 = _ from hd 13 (by decide)] at hK ⊢
      clear hd
      go_simp
      exact hK.out _ _ rfl (Below.refl _ _)
    refine Jo.jd 15 (some 21) [(some 20, 14)] (Jo.Fact.eq (.pointer (some ⟨w3.heap.size, 1, none⟩))) rfl rfl rfl rfl (fun vs wj hJ hd K hK => ?_) ?_
    · simp only [Jo.putl, Jo.zd, Jo.ze, Act.put, Jo.za, Jo.zb, Jo.zc] at hK ⊢
      rw [show vs 14 = _ from hd 14 (by decide)] at hK ⊢
      clear hd
      go_simp
      exact hK.out _ _ rfl (Below.refl _ _)
    refine Jo.jd 16 (some 22) [(some 20, 14), (some 21, 15)] (Jo.Fact.eq (.pointer (some ⟨w3.heap.size, 1, none⟩))) rfl rfl rfl rfl (fun vs wj hJ hd K hK => ?_) ?_
    · simp only [Jo.putl, Jo.zd, Jo.ze, Act.put, Jo.za, Jo.zb, Jo.zc] at hK ⊢
      rw [show vs 14 = _ from hd 14 (by decide), show vs 15 = _ from hd 15 (by decide)] at hK ⊢
      clear hd
      go_simp
      exact hK.out _ _ rfl (Below.refl _ _)
    refine Jo.jd 17 (some 23) [(some 20, 14), (some 22, 16)] (Jo.Fact.eq (.int .i64 1)) rfl rfl rfl rfl (fun vs wj hJ hd K hK => ?_) ?_
    · simp only [Jo.putl, Jo.zd, Jo.ze, Act.put, Jo.za, Jo.zb, Jo.zc] at hK ⊢
      rw [show vs 14 = _ from hd 14 (by decide), show vs 16 = _ from hd 16 (by decide)] at hK ⊢
      clear hd
      have xX11 := (X1.below hJ).a 1 (.int .i64 1) rfl
      go_simp
      exact hK.out _ _ rfl (Below.refl _ _)
    refine Jo.jd 18 (some 24) [(some 20, 14), (some 23, 17)] (Jo.Fact.eq (.bool true)) rfl rfl rfl rfl (fun vs wj hJ hd K hK => ?_) ?_
    · simp only [Jo.putl, Jo.zd, Jo.ze, Act.put, Jo.za, Jo.zb, Jo.zc] at hK ⊢
      rw [show vs 14 = _ from hd 14 (by decide), show vs 17 = _ from hd 17 (by decide)] at hK ⊢
      clear hd
      go_simp
      exact hK.out _ _ (by first | rfl | simp) (Below.refl _ _)
    refine Jo.jd 19 (some 25) [(some 20, 14), (some 24, 18)] (Jo.Fact.eq (.bool true)) rfl rfl rfl rfl (fun vs wj hJ hd K hK => ?_) ?_
    · simp only [Jo.putl, Jo.zd, Jo.ze, Act.put, Jo.za, Jo.zb, Jo.zc] at hK ⊢
      rw [show vs 14 = _ from hd 14 (by decide), show vs 18 = _ from hd 18 (by decide)] at hK ⊢
      clear hd
      go_simp
      exact hK.out _ _ rfl (Below.refl _ _)
    refine Jo.jd 20 (some 26) [(some 25, 19)] (Jo.Fact.eq (.bool true)) rfl rfl rfl rfl (fun vs wj hJ hd K hK => ?_) ?_
    · simp only [Jo.putl, Jo.zd, Jo.ze, Act.put, Jo.za, Jo.zb, Jo.zc] at hK ⊢
      rw [show vs 19 = _ from hd 19 (by decide)] at hK ⊢
      clear hd
      go_simp
      exact hK.out _ _ rfl (Below.refl _ _)
    refine Jo.jd 21 (some 27) [(some 26, 20)] (Jo.Fact.iv (some (0, o1))) rfl rfl rfl rfl (fun vs wj hJ hd K hK => ?_) ?_
    · simp only [Jo.putl, Jo.zd, Jo.ze, Act.put, Jo.za, Jo.zb, Jo.zc] at hK ⊢
      rw [show vs 20 = _ from hd 20 (by decide)] at hK ⊢
      clear hd
      go_simp
      refine (kvOf (by decide) (by decide) (by decide) (by decide) H0.out H1.out M01.out).mono ?_
      rintro ee wk ⟨e6, K6, s6, M6, E6, K6b, s6b, M6b, E6b, rfl, v6, B⟩
      exact hK.out _ _ ⟨e6, K6, s6, M6, E6, K6b, s6b, M6b, E6b, rfl, v6⟩ B
    refine Jo.jd 22 (some 28) [(some 26, 20)] (Jo.Fact.iv (some (o3, o4))) rfl rfl rfl rfl (fun vs wj hJ hd K hK => ?_) ?_
    · simp only [Jo.putl, Jo.zd, Jo.ze, Act.put, Jo.za, Jo.zb, Jo.zc] at hK ⊢
      rw [show vs 20 = _ from hd 20 (by decide)] at hK ⊢
      clear hd
      go_simp
      refine (kvOf (by decide) (by decide) (by decide) (by decide) H3.out H4.out M34.out).mono ?_
      rintro ee wk ⟨e7, K7, s7, M7, E7, K7b, s7b, M7b, E7b, rfl, v7, B⟩
      exact hK.out _ _ ⟨e7, K7, s7, M7, E7, K7b, s7b, M7b, E7b, rfl, v7⟩ B
    refine Jo.jd 23 (some 29) [(some 26, 20), (some 27, 21), (some 28, 22)] (Jo.Fact.il8 2 [some (0, o1), some (o3, o4)]) rfl rfl rfl rfl (fun vs wj hJ hd K hK => ?_) ?_
    · have d21 : (Jo.Fact.iv (some (0, o1))).P (vs 21) wj := hd 21 (by decide)
      have d22 : (Jo.Fact.iv (some (o3, o4))).P (vs 22) wj := hd 22 (by decide)
      simp only [Jo.putl, Jo.zd, Jo.ze, Act.put, Jo.za, Jo.zb, Jo.zc] at hK ⊢
      rw [show vs 20 = _ from hd 20 (by decide)] at hK ⊢
      clear hd
      generalize vs 21 = u21 at hK d21 ⊢
      generalize vs 22 = u22 at hK d22 ⊢
      obtain ⟨e6, K6, s6, M6, E6, K6b, s6b, M6b, E6b, rfl, v6⟩ := d21
      obtain ⟨e7, K7, s7, M7, E7, K7b, s7b, M7b, E7b, rfl, v7⟩ := d22
      go_simp
      exact hK.out _ _ ⟨_, 2, rfl, Il8.lit2 rfl v6.rw v7.rw⟩ (bel1 _ _)
    refine Jo.jd 24 (some 30) [(some 26, 20), (some 29, 23)] (Jo.Fact.iv (some (0, o4))) rfl rfl rfl rfl (fun vs wj hJ hd K hK => ?_) ?_
    · have d23 : (Jo.Fact.il8 2 [some (0, o1), some (o3, o4)]).P (vs 23) wj := hd 23 (by decide)
      simp only [Jo.putl, Jo.zd, Jo.ze, Act.put, Jo.za, Jo.zb, Jo.zc] at hK ⊢
      rw [show vs 20 = _ from hd 20 (by decide)] at hK ⊢
      clear hd
      generalize vs 23 = u23 at hK d23 ⊢
      obtain ⟨A8, c8, rfl, h8⟩ := d23
      go_simp
      refine (kvHull h8 HHU.out).mono ?_
      rintro ee wk ⟨e9, K9, s9, M9, E9, K9b, s9b, M9b, E9b, rfl, v9, B⟩
      exact hK.out _ _ ⟨e9, K9, s9, M9, E9, K9b, s9b, M9b, E9b, rfl, v9⟩ B
    refine Jo.jd 25 (some 31) [(some 26, 20)] (Jo.Fact.iv (some (0, o4))) rfl rfl rfl rfl (fun vs wj hJ hd K hK => ?_) ?_
    · simp only [Jo.putl, Jo.zd, Jo.ze, Act.put, Jo.za, Jo.zb, Jo.zc] at hK ⊢
      rw [show vs 20 = _ from hd 20 (by decide)] at hK ⊢
      clear hd
      go_simp
      refine (kvOf (by decide) (by decide) (by decide) (by decide) H0.out H4.out M04.out).mono ?_
      rintro ee wk ⟨e10, K10, s10, M10, E10, K10b, s10b, M10b, E10b, rfl, v10, B⟩
      exact hK.out _ _ ⟨e10, K10, s10, M10, E10, K10b, s10b, M10b, E10b, rfl, v10⟩ B
    refine Jo.jd 26 (some 32) [(some 26, 20), (some 30, 24), (some 31, 25)] (Jo.Fact.eq (.bool true)) rfl rfl rfl rfl (fun vs wj hJ hd K hK => ?_) ?_
    · have d24 : (Jo.Fact.iv (some (0, o4))).P (vs 24) wj := hd 24 (by decide)
      have d25 : (Jo.Fact.iv (some (0, o4))).P (vs 25) wj := hd 25 (by decide)
      simp only [Jo.putl, Jo.zd, Jo.ze, Act.put, Jo.za, Jo.zb, Jo.zc] at hK ⊢
      rw [show vs 20 = _ from hd 20 (by decide)] at hK ⊢
      clear hd
      generalize vs 24 = u24 at hK d24 ⊢
      generalize vs 25 = u25 at hK d25 ⊢
      obtain ⟨e9, K9, s9, M9, E9, K9b, s9b, M9b, E9b, rfl, v9⟩ := d24
      obtain ⟨e10, K10, s10, M10, E10, K10b, s10b, M10b, E10b, rfl, v10⟩ := d25
      obtain ⟨rfl, rfl, rfl, rfl, rfl, rfl, rfl, rfl, rfl⟩ := v9.uniq v10
      go_simp
      exact hK.out _ _ (by first | rfl | (show Value.bool _ = Value.bool _; simp)) (Below.refl _ _)
    refine Jo.jd 27 (some 33) [(some 26, 20), (some 32, 26)] (Jo.Fact.eq (.bool true)) rfl rfl rfl rfl (fun vs wj hJ hd K hK => ?_) ?_
    · simp only [Jo.putl, Jo.zd, Jo.ze, Act.put, Jo.za, Jo.zb, Jo.zc] at hK ⊢
      rw [show vs 20 = _ from hd 20 (by decide), show vs 26 = _ from hd 26 (by decide)] at hK ⊢
      clear hd
      go_simp
      exact hK.out _ _ rfl (Below.refl _ _)
    refine Jo.jd 28 (some 34) [(some 33, 27)] (Jo.Fact.eq (.bool true)) rfl rfl rfl rfl (fun vs wj hJ hd K hK => ?_) ?_
    · simp only [Jo.putl, Jo.zd, Jo.ze, Act.put, Jo.za, Jo.zb, Jo.zc] at hK ⊢
      rw [show vs 27 = _ from hd 27 (by decide)] at hK ⊢
      clear hd
      go_simp
      exact hK.out _ _ rfl (Below.refl _ _)
    refine Jo.jd 29 (some 35) [(some 34, 28)] (Jo.Fact.eq (.agg #[.bool false, .int .i64 1, .bool s3, .int .u64 M3, .int .i64 E3, .int .i64 K3b, .bool s3b, .int .u64 M3b, .int .i64 E3b])) rfl rfl rfl rfl (fun vs wj hJ hd K hK => ?_) ?_
    · simp only [Jo.putl, Jo.zd, Jo.ze, Act.put, Jo.za, Jo.zb, Jo.zc] at hK ⊢
      rw [show vs 28 = _ from hd 28 (by decide)] at hK ⊢
      clear hd
      have xX10 := (X1.below hJ).a 0 (.bool false) rfl
      have xX11 := (X1.below hJ).a 1 (.int .i64 1) rfl
      have xX12 := (X1.below hJ).a 2 (.bool s3) rfl
      have xX13 := (X1.below hJ).a 3 (.int .u64 M3) rfl
      have xX14 := (X1.below hJ).a 4 (.int .i64 E3) rfl
      have xX15 := (X1.below hJ).a 5 (.int .i64 K3b) rfl
      have xX16 := (X1.below hJ).a 6 (.bool s3b) rfl
      have xX17 := (X1.below hJ).a 7 (.int .u64 M3b) rfl
      have xX18 := (X1.below hJ).a 8 (.int .i64 E3b) rfl
      go_simp
      exact hK.out _ _ rfl (Below.refl _ _)
    refine Jo.jd 30 (some 36) [(some 34, 28)] (Jo.Fact.num o2) rfl rfl rfl rfl (fun vs wj hJ hd K hK => ?_) ?_
    · simp only [Jo.putl, Jo.zd, Jo.ze, Act.put, Jo.za, Jo.zb, Jo.zc] at hK ⊢
      rw [show vs 28 = _ from hd 28 (by decide)] at hK ⊢
      clear hd
      go_simp
      refine (nOf _ (by decide) (by decide) H2.out).mono ?_
      rintro ee wk ⟨K11, s11, M11, E11, rfl, q11, B⟩
      exact hK.out _ _ ⟨K11, s11, M11, E11, rfl, q11⟩ B
    refine Jo.jd 31 (some 37) [(some 34, 28), (some 35, 29), (some 36, 30)] (Jo.Fact.eq (.bool true)) rfl rfl rfl rfl (fun vs wj hJ hd K hK => ?_) ?_
    · have d30 : (Jo.Fact.num o2).P (vs 30) wj := hd 30 (by decide)
      simp only [Jo.putl, Jo.zd, Jo.ze, Act.put, Jo.za, Jo.zb, Jo.zc] at hK ⊢
      rw [show vs 28 = _ from hd 28 (by decide), show vs 29 = _ from hd 29 (by decide)] at hK ⊢
      clear hd
      generalize vs 30 = u30 at hK d30 ⊢
      obtain ⟨K11, s11, M11, E11, rfl, q11⟩ := d30
      go_simp
      refine (kvHas v3.top.1 v3.top.2 q11.top v3.rk q11.rk HHA.out).mono ?_
      rintro ee wk ⟨rfl, B⟩
      exact hK.out _ _ rfl B
    refine Jo.jd 32 (some 38) [(some 34, 28), (some 37, 31)] (Jo.Fact.eq (.bool true)) rfl rfl rfl rfl (fun vs wj hJ hd K hK => ?_) ?_
    · simp only [Jo.putl, Jo.zd, Jo.ze, Act.put, Jo.za, Jo.zb, Jo.zc] at hK ⊢
      rw [show vs 28 = _ from hd 28 (by decide), show vs 31 = _ from hd 31 (by decide)] at hK ⊢
      clear hd
      go_simp
      exact hK.out _ _ rfl (Below.refl _ _)
    refine Jo.jd 33 (some 0) [(some 38, 32)] (Jo.Fact.eq (.bool true)) rfl rfl rfl rfl (fun vs wj hJ hd K hK => ?_) ?_
    · simp only [Jo.putl, Jo.zd, Jo.ze, Act.put, Jo.za, Jo.zb, Jo.zc] at hK ⊢
      rw [show vs 32 = _ from hd 32 (by decide)] at hK ⊢
      clear hd
      go_simp
      exact hK.out _ _ rfl (Below.refl _ _)
    exact Jo.Steps.nil
  have d1 : (Jo.Fact.iv (some (o1, o2))).P (vs 1) w8 := hd 1 (by decide)
  have d11 : (Jo.Fact.num o1).P (vs 11) w8 := hd 11 (by decide)
  have d21 : (Jo.Fact.iv (some (0, o1))).P (vs 21) w8 := hd 21 (by decide)
  have d22 : (Jo.Fact.iv (some (o3, o4))).P (vs 22) w8 := hd 22 (by decide)
  have d23 : (Jo.Fact.il8 2 [some (0, o1), some (o3, o4)]).P (vs 23) w8 := hd 23 (by decide)
  have d24 : (Jo.Fact.iv (some (0, o4))).P (vs 24) w8 := hd 24 (by decide)
  have d25 : (Jo.Fact.iv (some (0, o4))).P (vs 25) w8 := hd 25 (by decide)
  have d30 : (Jo.Fact.num o2).P (vs 30) w8 := hd 30 (by decide)
  simp only [Jo.putl, Jo.zd, Jo.ze, Act.put, Jo.za, Jo.zb, Jo.zc]
  rw [show vs 0 = _ from hd 0 (by decide), show vs 2 = _ from hd 2 (by decide), show vs 3 = _ from hd 3 (by decide), show vs 5 = _ from hd 5 (by decide), show vs 6 = _ from hd 6 (by decide), show vs 7 = _ from hd 7 (by decide), show vs 8 = _ from hd 8 (by decide), show vs 10 = _ from hd 10 (by decide), show vs 12 = _ from hd 12 (by decide), show vs 13 = _ from hd 13 (by decide), show vs 14 = _ from hd 14 (by decide), show vs 17 = _ from hd 17 (by decide), show vs 18 = _ from hd 18 (by decide), show vs 19 = _ from hd 19 (by decide), show vs 20 = _ from hd 20 (by decide), show vs 26 = _ from hd 26 (by decide), show vs 27 = _ from hd 27 (by decide), show vs 28 = _ from hd 28 (by decide), show vs 29 = _ from hd 29 (by decide), show vs 31 = _ from hd 31 (by decide), show vs 32 = _ from hd 32 (by decide), show vs 33 = _ from hd 33 (by decide)]
  clear hd
  generalize vs 1 = u1 at d1 ⊢
  generalize vs 11 = u11 at d11 ⊢
  generalize vs 21 = u21 at d21 ⊢
  generalize vs 22 = u22 at d22 ⊢
  generalize vs 23 = u23 at d23 ⊢
  generalize vs 24 = u24 at d24 ⊢
  generalize vs 25 = u25 at d25 ⊢
  generalize vs 30 = u30 at d30 ⊢
  obtain ⟨e4, K4, s4, M4, E4, K4b, s4b, M4b, E4b, rfl, v4⟩ := d1
  obtain ⟨K5, s5, M5, E5, rfl, _⟩ := d11
  obtain ⟨e6, K6, s6, M6, E6, K6b, s6b, M6b, E6b, rfl, v6⟩ := d21
  obtain ⟨e7, K7, s7, M7, E7, K7b, s7b, M7b, E7b, rfl, v7⟩ := d22
  obtain ⟨_, _, rfl, _⟩ := d23
  obtain ⟨e9, K9, s9, M9, E9, K9b, s9b, M9b, E9b, rfl, v9⟩ := d24
  obtain ⟨e10, K10, s10, M10, E10, K10b, s10b, M10b, E10b, rfl, v10⟩ := d25
  obtain ⟨K11, s11, M11, E11, rfl, _⟩ := d30
  replace X1 := X1.below hJ
  replace HB := Lib.hid (bt HB.out hJ)
  refine Jo.jdone (by kernel_rfl) ?_
  go_wp2
  go_ret
  exact ⟨rfl, HB.out⟩
end Go.Proofs.Ythhlccdmflgbbaa
