/-
 Contracts that the proof rests on.
-/
import Derived.Test.YtnbliijpjcmbjaaGreatDoorYPax
namespace Go.Proofs.YtnbliijpjcmbjaaGreatDoor.Jo
open Go Go.RowKit
set_option linter.unusedVariables false
def Pair (w1 : World) (F : List Fact) (p q s e : Nat) (old : Array Value) (R : TypeId) (l : List Nat) (vs : Nat → Value) (w : World) : Prop :=
 Below w1.heap.size w1 w ∧ (∀ j ∈ l, ∀ u, phi F j (vs j) u) ∧ (s ∈ l → p ∈ l ∧ q ∈ l ∧ e ∈ l) ∧
   (p ∈ l → ∃ g, vs p = .pointer (some ⟨g, 0, none⟩) ∧ w1.heap.size ≤ g ∧ (s ∉ l → Bo w g old R) ∧ (s ∈ l → ∃ cs, vs e = .agg cs ∧ Bo w g cs R)) ∧
   (q ∈ l → ∃ g, vs q = .pointer (some ⟨g, 0, none⟩) ∧ w1.heap.size ≤ g ∧ Bo w g old R) ∧ (p ∈ l → q ∈ l → vs p ≠ vs q)
section
variable {w1 w w' : World} {F : List Fact} {p q s e i : Nat} {l : List Nat} {vs : Nat → Value} {v : Value} {cs old : Array Value} {R : TypeId}
theorem Pair.nil : Pair w1 F p q s e old R [] (fun _ => undef) w1.drew := ⟨(br _ _).drew, by simp, by simp, by simp, by simp, by simp⟩
theorem Pair.facts (h : ∀ j ∈ l, ∀ u, phi F j (vs j) u) (hv : ∀ u, phi F i v u) : ∀ j ∈ l ++ [i], ∀ u, phi F j (upd vs i v j) u := by
 intro j hj u
 by_cases c : j = i
 · subst c; rw [upd_same]; exact hv u
 · rw [upd_ne c]; exact h j ((mem_snoc c).1 hj) u
theorem far {g h : Nat} (hg : g < h) : (.pointer (some ⟨h, 0, none⟩) : Value) ≠ .pointer (some ⟨g, 0, none⟩) := by
 intro c
 injection c with c
 injection c with c
 injection c with c
 omega
theorem Pair.step (h : Pair w1 F p q s e old R l vs w) (hn : i ∉ l) (hp : p ≠ i) (hq : q ≠ i) (hs : s ≠ i) (hv : ∀ u, phi F i v u) (hg : Below w.heap.size w w') : Pair w1 F p q s e old R (l ++ [i]) (upd vs i v) w' := by
 obtain ⟨h1, h2, h3, h4, h5, h6⟩ := h
 refine ⟨bt h1 hg, Pair.facts h2 hv, fun c => ?_, fun c => ?_, fun c => ?_, fun a b => ?_⟩
 · obtain ⟨a, b, d⟩ := h3 ((mem_snoc hs).1 c); exact ⟨List.mem_append_left _ a, List.mem_append_left _ b, List.mem_append_left _ d⟩
 · obtain ⟨g, e1, e2, e3, e4⟩ := h4 ((mem_snoc hp).1 c); rw [upd_ne hp]
   refine ⟨g, e1, e2, fun c => (e3 (fun d => c ((mem_snoc hs).2 d))).below hg, fun c => ?_⟩
   have sl := (mem_snoc hs).1 c; obtain ⟨cs, e5, e6⟩ := e4 sl
   exact ⟨cs, by rw [upd_ne (show e ≠ i from fun d => hn (d ▸ (h3 sl).2.2))]; exact e5, e6.below hg⟩
 · obtain ⟨g, e1, e2, e3⟩ := h5 ((mem_snoc hq).1 c); rw [upd_ne hq]; exact ⟨g, e1, e2, e3.below hg⟩
 · rw [upd_ne hp, upd_ne hq]; exact h6 ((mem_snoc hp).1 a) ((mem_snoc hq).1 b)
theorem Pair.newp (h : Pair w1 F p q s e old R l vs w) (hn : p ∉ l) (hpq : p ≠ q) (hs : s ≠ p) (hf : ∀ v u, phi F p v u) :
   Pair w1 F p q s e old R (l ++ [p]) (upd vs p (.pointer (some ⟨w.heap.size, 0, none⟩))) (w.alloc (.cells old R)) := by
 obtain ⟨h1, h2, h3, h4, h5, h6⟩ := h; have b := bel1 w (.cells old R)
 have ns : s ∉ l := fun c => hn (h3 c).1
 have ns' : s ∉ l ++ [p] := fun c => ns ((mem_snoc hs).1 c)
 refine ⟨bt h1 b, Pair.facts h2 (hf _), fun c => absurd c ns', fun _ => ⟨_, upd_same _ _ _, h1.size, fun _ => Bo.new _ _ _, fun c => absurd c ns'⟩, fun c => ?_, fun _ c => ?_⟩
 · obtain ⟨g, e1, e2, e3⟩ := h5 ((mem_snoc (Ne.symm hpq)).1 c); rw [upd_ne (Ne.symm hpq)]; exact ⟨g, e1, e2, e3.below b⟩
 · obtain ⟨g, e1, e2, e3⟩ := h5 ((mem_snoc (Ne.symm hpq)).1 c); rw [upd_same, upd_ne (Ne.symm hpq), e1]; exact far e3.lt
theorem Pair.newq (h : Pair w1 F p q s e old R l vs w) (hn : q ∉ l) (hpq : p ≠ q) (hs : s ≠ q) (hf : ∀ v u, phi F q v u) :
   Pair w1 F p q s e old R (l ++ [q]) (upd vs q (.pointer (some ⟨w.heap.size, 0, none⟩))) (w.alloc (.cells old R)) := by
 obtain ⟨h1, h2, h3, h4, h5, h6⟩ := h; have b := bel1 w (.cells old R)
 have ns : s ∉ l := fun c => hn (h3 c).2.1
 have ns' : s ∉ l ++ [q] := fun c => ns ((mem_snoc hs).1 c)
 refine ⟨bt h1 b, Pair.facts h2 (hf _), fun c => absurd c ns', fun c => ?_, fun _ => ⟨_, upd_same _ _ _, h1.size, Bo.new _ _ _⟩, fun c _ => ?_⟩
 · obtain ⟨g, e1, e2, e3, _⟩ := h4 ((mem_snoc hpq).1 c); rw [upd_ne hpq]
   exact ⟨g, e1, e2, fun _ => (e3 ns).below b, fun c => absurd c ns'⟩
 · obtain ⟨g, e1, e2, e3, _⟩ := h4 ((mem_snoc hpq).1 c); rw [upd_same, upd_ne hpq, e1]
   exact fun c => far (e3 ns).lt c.symm
theorem Pair.sto {g : Nat} (h : Pair w1 F p q s e old R l vs w) (hn : s ∉ l) (mp : p ∈ l) (mq : q ∈ l) (me : e ∈ l) (hf : ∀ v u, phi F s v u) (hg : vs p = .pointer (some ⟨g, 0, none⟩)) (he : vs e = .agg cs) (S : StN w w' g old cs R) :
   Pair w1 F p q s e old R (l ++ [s]) (upd vs s v) w' := by
 obtain ⟨h1, h2, h3, h4, h5, h6⟩ := h
 have ms : s ∈ l ++ [s] := by simp
 have ps : p ≠ s := fun c => hn (c ▸ mp)
 have qs : q ≠ s := fun c => hn (c ▸ mq)
 have es : e ≠ s := fun c => hn (c ▸ me)
 obtain ⟨g1, e1, hb1, _, _⟩ := h4 mp
 obtain rfl : g1 = g := by
   rw [e1] at hg
   injection hg with c
   injection c with c
   injection c
 obtain ⟨g2, e2, hb2, X2⟩ := h5 mq
 have hne : g2 ≠ g1 := fun c => h6 mp mq (by rw [e1, e2, c])
 refine ⟨S.below h1 hb1, Pair.facts h2 (hf _), fun _ => ⟨List.mem_append_left _ mp, List.mem_append_left _ mq, List.mem_append_left _ me⟩, fun _ => ?_, fun _ => ?_, fun _ _ => ?_⟩
 · rw [upd_ne ps, upd_ne es]
   exact ⟨g1, e1, hb1, fun c => absurd ms c, fun _ => ⟨cs, he, S.box⟩⟩
 · rw [upd_ne qs]; exact ⟨g2, e2, hb2, X2.stn S hne⟩
 · rw [upd_ne ps, upd_ne qs]; exact h6 mp mq
theorem Pair.all (h : Pair w1 F p q s e old R l vs w) (mp : p ∈ l) (mq : q ∈ l) (ms : s ∈ l) : ∃ g g' cs, vs p = .pointer (some ⟨g, 0, none⟩) ∧ vs q = .pointer (some ⟨g', 0, none⟩) ∧ w1.heap.size ≤ g ∧ w1.heap.size ≤ g' ∧ g ≠ g' ∧ vs e = .agg cs ∧ Bo w g cs R ∧ Bo w g' old R := by
 obtain ⟨h1, h2, h3, h4, h5, h6⟩ := h; obtain ⟨g, e1, e2, _, e3⟩ := h4 mp; obtain ⟨cs, e4, e5⟩ := e3 ms; obtain ⟨g', f1, f2, f3⟩ := h5 mq
 exact ⟨g, g', cs, e1, f1, e2, f2, fun c => h6 mp mq (by rw [e1, f1, c]), e4, e5, f3⟩
end
section
variable {P : Program} {ops : Array Oper} {Q : Exit → Act → World → Prop} {a0 : Act} {T : List Nat} {ds : List (Option Tmp)} {ls : List (List Nat)} {k : Nat} {F : List Fact} {w1 : World} {p q s e : Nat} {old : Array Value} {R : TypeId}
theorem pcons {i : Nat} {o : Oper} {r : List Nat} {di : Option Tmp} {L : List (Option Tmp × Nat)} {f : Fact} (hp : p ≠ i) (hq : q ≠ i) (hs' : s ≠ i) (hw : ∀ v w w', f.P v w → f.P v w') (ho : ops[i]? = some o) (hdi : ds.getD i none = di) (hL : ((ls.getD i []).map fun j => (ds.getD j none, j)) = L) (hf : F.getD i Fact.any = f)
   (h : ∀ vs w, Below w1.heap.size w1 w → (∀ j ∈ ls.getD i [], phi F j (vs j) w) → ∀ K : Act → World → Prop, Shut (∀ v w', f.P v w' → Grow w w' → K ((putl vs L a0).put di v) w') →
     if Region.wanted o (yielded ops (putl vs L a0).tmps) = true then Oper.wp P o (putl vs L a0) w K Q else K ((putl vs L a0).put o.dst undef) w)
   (hs : StepsI P ops Q a0 (dstOf ds) (depOf ls) (Pair w1 F p q s e old R) r) : StepsI P ops Q a0 (dstOf ds) (depOf ls) (Pair w1 F p q s e old R) (i :: r) := by
 refine icons ho hdi hL (fun l vs w hI hn hd K hK => h vs w hI.1 (fun j hj => hI.2.1 j (hd j hj) w) K ?_) hs
 intro v w' h1 h2
 exact hK.out v w' (hI.step hn hp hq hs' (fun u => by unfold phi; rw [hf]; exact hw _ _ _ h1) h2)
theorem pnew {i : Nat} {o : Oper} {r : List Nat} {di : Option Tmp} {L : List (Option Tmp × Nat)} (hpq : p ≠ q) (hi : i = p ∨ i = q) (hsp : s ≠ p) (hsq : s ≠ q) (hf : F.getD i Fact.any = Fact.any) (ho : ops[i]? = some o) (hdi : ds.getD i none = di) (hL : ((ls.getD i []).map fun j => (ds.getD j none, j)) = L)
   (h : ∀ vs w, ∀ K : Act → World → Prop, Shut (K ((putl vs L a0).put di (.pointer (some ⟨w.heap.size, 0, none⟩))) (w.alloc (.cells old R))) →
     if Region.wanted o (yielded ops (putl vs L a0).tmps) = true then Oper.wp P o (putl vs L a0) w K Q else K ((putl vs L a0).put o.dst undef) w)
   (hs : StepsI P ops Q a0 (dstOf ds) (depOf ls) (Pair w1 F p q s e old R) r) : StepsI P ops Q a0 (dstOf ds) (depOf ls) (Pair w1 F p q s e old R) (i :: r) := by
 refine icons ho hdi hL (fun l vs w hI hn hd K hK => h vs w K ?_) hs
 have fa : ∀ v u, phi F i v u := fun v u => by unfold phi; rw [hf]; trivial
 rcases hi with rfl | rfl
 · exact hK.out _ _ (hI.newp hn hpq hsp fa)
 · exact hK.out _ _ (hI.newq hn hpq hsq fa)
theorem psto {o : Oper} {r : List Nat} {di : Option Tmp} {L : List (Option Tmp × Nat)} (hp : p ∈ ls.getD s []) (hq : q ∈ ls.getD s []) (he : e ∈ ls.getD s []) (hf : F.getD s Fact.any = Fact.any) (ho : ops[s]? = some o) (hdi : ds.getD s none = di) (hL : ((ls.getD s []).map fun j => (ds.getD j none, j)) = L)
   (h : ∀ vs w, Below w1.heap.size w1 w → (∀ j ∈ ls.getD s [], phi F j (vs j) w) → ∀ g, vs p = .pointer (some ⟨g, 0, none⟩) → Bo w g old R → ∀ K : Act → World → Prop, Shut (∀ v w' cs, vs e = .agg cs → StN w w' g old cs R → K ((putl vs L a0).put di v) w') →
     if Region.wanted o (yielded ops (putl vs L a0).tmps) = true then Oper.wp P o (putl vs L a0) w K Q else K ((putl vs L a0).put o.dst undef) w)
   (hs : StepsI P ops Q a0 (dstOf ds) (depOf ls) (Pair w1 F p q s e old R) r) : StepsI P ops Q a0 (dstOf ds) (depOf ls) (Pair w1 F p q s e old R) (s :: r) := by
 refine icons ho hdi hL (fun l vs w hI hn hd K hK => ?_) hs
 obtain ⟨g, e1, _, X, _⟩ := hI.2.2.2.1 (hd p hp)
 refine h vs w hI.1 (fun j hj => hI.2.1 j (hd j hj) w) g e1 (X hn) K ?_
 intro v w' cs h1 h2
 exact hK.out v w' (hI.sto hn (hd p hp) (hd q hq) (hd e he) (fun v u => by unfold phi; rw [hf]; trivial) e1 h1 h2)
theorem region_pair {id fuel : Nat} {L : List (Option Tmp × Nat)} (hp : p ∈ T) (hq : q ∈ T) (hs : s ∈ T) (hm : P.follows .mixedOrders = true) (hok : ok .any ops T (dstOf ds) (depOf ls) k a0.tmps.size = true) (hnd : T.Nodup)
   (hL : (T.map fun j => (ds.getD j none, j)) = L) (hfu : ops.size - T.length = fuel)
   (step : StepsI P ops (NoPanic Q) a0 (dstOf ds) (depOf ls) (Pair w1 F p q s e old R) T)
   (fin : ∀ vs wj, Below w1.heap.size w1 wj → (∀ j ∈ T, phi F j (vs j) wj) → (∃ g g' cs, vs p = .pointer (some ⟨g, 0, none⟩) ∧ vs q = .pointer (some ⟨g', 0, none⟩) ∧ w1.heap.size ≤ g ∧ w1.heap.size ≤ g' ∧ g ≠ g' ∧ vs e = .agg cs ∧ Bo wj g cs R ∧ Bo wj g' old R) →
     wpAny P .any ops (NoPanic Q) fuel (mark T ops.size) (putl vs L a0) wj) :
   (Code.region id ops true).wp P Q a0 w1 :=
 region_inv (T := T) (ds := ds) (ls := ls) (k := k) (I := Pair w1 F p q s e old R) hm hok hnd hL hfu Pair.nil step (fun l vs wj hl hI => fin vs wj hI.1 (fun j hj => hI.2.1 j ((hl j).2 hj) wj) (hI.all ((hl p).2 hp) ((hl q).2 hq) ((hl s).2 hs)))
end
end Go.Proofs.YtnbliijpjcmbjaaGreatDoor.Jo
