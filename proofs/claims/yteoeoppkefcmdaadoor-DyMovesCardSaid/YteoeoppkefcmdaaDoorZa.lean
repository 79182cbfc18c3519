/-
  Contracts and words that the statements' proofs rest on, several texts in one: Jo, Num, Mem, Cut, Bits, Cmp, Acc, Sum, Diva, Guess, Raise, Shr, Long, Div, Mul, Vals, Wn, Bo, Jr, Wa, Blen, Len, Vall, Wc, Wd, We, App, Refa, Refs, Qa, Dm, Refb, Refl, Refc.
-/
import Derived.Deep.RegionHeld3
import Derived.Below
import Derived.Laws.OwnMore
import Derived.Laws.Rows
import Derived.Laws.MakeOwn
import Derived.Laws.CopyOwn
import Derived.Deep.Draws
import Derived.Carry
import Derived.Deep.MidRow
import Derived.Lib.Hide
import Derived.Test.YteoeoppkefcmdaaDoorRows
import Derived.WalkKit
import Derived.WalkSpells
import Derived.WalkLawsBesides
import Derived.Deep.QuietTactic
import Derived.BigQuiet
import Derived.Lib.BitFns
import Derived.Deep.RegionWith
import Derived.IntWalk
import Derived.Maps.AppendAt
/-
  A region that draws its order, whatever the order: if each operation, whenever the ones that it looks at have come up, leaves a value that meets its own fact, and every step keeps all facts, then all facts hold behind it. No Go text; no condition of a row.
-/
namespace Go.Proofs.YteoeoppkefcmdaaDoor.Jo
open Go
set_option linter.unusedVariables false

/-- The frame, with the values of some operations put into their slots. -/
def base (dst : Nat → Option Tmp) (vs : Nat → Value) (l : List Nat) (a : Act) : Act := l.foldl (fun a j => a.put (dst j) (vs j)) a

section
variable {dst : Nat → Option Tmp} {vs vs' : Nat → Value} {l m : List Nat} {a b : Act} {t : Nat}
theorem put_defers (a : Act) (d : Option Tmp) (v : Value) : (a.put d v).defers = a.defers := by cases d <;> rfl
theorem put_size (a : Act) (d : Option Tmp) (v : Value) : (a.put d v).tmps.size = a.tmps.size := by cases d <;> simp [Act.put]
theorem put_get_same {d : Nat} {v : Value} (h : d < a.tmps.size) : (a.put (some d) v).tmps[d]? = some v := by simp [Act.put, h]
theorem put_get_ne {d : Option Tmp} {v : Value} (h : d ≠ some t) : (a.put d v).tmps[t]? = a.tmps[t]? := by
  cases d with
  | none => rfl
  | some d =>
    have : d ≠ t := fun e => h (by rw [e])
    simp [Act.put, Array.getElem?_setIfInBounds_ne this]
theorem base_cons (j : Nat) : base dst vs (j :: l) a = base dst vs l (a.put (dst j) (vs j)) := rfl
theorem base_snoc (i : Nat) : base dst vs (l ++ [i]) a = (base dst vs l a).put (dst i) (vs i) := by simp [base]
theorem base_defers : ∀ (l : List Nat) (a : Act), (base dst vs l a).defers = a.defers
  | [], _ => rfl
  | j :: l, a => by rw [base_cons, base_defers l, put_defers]
theorem base_size : ∀ (l : List Nat) (a : Act), (base dst vs l a).tmps.size = a.tmps.size
  | [], _ => rfl
  | j :: l, a => by rw [base_cons, base_size l, put_size]
theorem base_miss : ∀ (l : List Nat) (a : Act), (∀ j ∈ l, dst j ≠ some t) → (base dst vs l a).tmps[t]? = a.tmps[t]?
  | [], _, _ => rfl
  | j :: l, a, h => by rw [base_cons, base_miss l _ (fun x hx => h x (by simp [hx])), put_get_ne (h j (by simp))]
theorem base_hit {j : Nat} (hj : dst j = some t) : ∀ (l : List Nat) (a : Act), j ∈ l → t < a.tmps.size → (∀ x ∈ l, dst x = some t → x = j) → (base dst vs l a).tmps[t]? = some (vs j)
  | [], _, h, _, _ => by cases h
  | x :: l, a, h, ht, hu => by
    rw [base_cons]
    by_cases hm : j ∈ l
    · exact base_hit hj l _ hm (by rw [put_size]; exact ht) (fun y hy => hu y (by simp [hy]))
    · have e : x = j := by
        rcases List.mem_cons.1 h with e | e
        · exact e.symm
        · exact absurd e hm
      subst e
      rw [base_miss l _ (fun y hy hd => hm (hu y (by simp [hy]) hd ▸ hy)), hj, put_get_same ht]
theorem base_vs : ∀ (l : List Nat) (a : Act), (∀ j ∈ l, vs j = vs' j) → base dst vs l a = base dst vs' l a
  | [], _, _ => rfl
  | j :: l, a, h => by rw [base_cons, base_cons, h j (by simp), base_vs l _ (fun x hx => h x (by simp [hx]))]
theorem base_same {T : List Nat} (hinj : ∀ i ∈ T, ∀ j ∈ T, ∀ d, dst i = some d → dst j = some d → i = j) (hl : ∀ j ∈ l, j ∈ T) (hm : ∀ j ∈ m, j ∈ T) (hs : ∀ j, j ∈ l ↔ j ∈ m) : base dst vs l a = base dst vs m a := by
  have ht : (base dst vs l a).tmps = (base dst vs m a).tmps := by
    apply Array.ext_getElem?
    intro t
    by_cases hsz : t < a.tmps.size
    · by_cases h : ∃ j ∈ l, dst j = some t
      · obtain ⟨j, hj, hd⟩ := h
        rw [base_hit hd l a hj hsz (fun x hx hx2 => hinj x (hl x hx) j (hl j hj) t hx2 hd), base_hit hd m a ((hs j).1 hj) hsz (fun x hx hx2 => hinj x (hm x hx) j (hl j hj) t hx2 hd)]
      · rw [base_miss l a (fun j hj hd => h ⟨j, hj, hd⟩), base_miss m a (fun j hj hd => h ⟨j, (hs j).2 hj, hd⟩)]
    · rw [Array.getElem?_eq_none (by rw [base_size]; omega), Array.getElem?_eq_none (by rw [base_size]; omega)]
  have hd : (base dst vs l a).defers = (base dst vs m a).defers := by rw [base_defers, base_defers]
  cases h1 : base dst vs l a
  cases h2 : base dst vs m a
  rw [h1, h2] at ht hd
  simp only at ht hd
  rw [ht, hd]
end

/-- What an operation waits for. -/
def dep (md : Region.Mode) (ops : Array Oper) (i : Nat) : List Nat := ((ops[i]?).map fun o => (o.after.toList.filter (Region.binds md)).map (·.on)).getD []
def anc (md : Region.Mode) (ops : Array Oper) : Nat → List Nat → List Nat
  | 0, s => s
  | k + 1, s => anc md ops k (s ++ s.flatMap (dep md ops)).eraseDups
theorem anc_sub {md : Region.Mode} {ops : Array Oper} {l : List Nat} (hcl : ∀ j ∈ l, ∀ x ∈ dep md ops j, x ∈ l) : ∀ (k : Nat) (s : List Nat), (∀ x ∈ s, x ∈ l) → ∀ x ∈ anc md ops k s, x ∈ l
  | 0, _, h, x, hx => h x hx
  | k + 1, s, h, x, hx => by
    refine anc_sub hcl k _ (fun y hy => ?_) x hx
    rw [List.mem_eraseDups, List.mem_append] at hy
    rcases hy with hy | hy
    · exact h y hy
    · obtain ⟨z, hz, hy⟩ := List.mem_flatMap.1 hy
      exact hcl z (h z hz) y hy

/-- The closed facts on a region: T come up first, each after what it looks at. -/
def okAt (md : Region.Mode) (ops : Array Oper) (T : List Nat) (dst : Nat → Option Tmp) (D : Nat → List Nat) (k sz i : Nat) : Bool :=
  decide (i < ops.size) && ((ops[i]?).bind (·.dst) == dst i) && (match dst i with | some d => decide (d < sz) | none => true)
    && T.all (fun j => i == j || dst i == none || dst i != dst j)
    && (D i).all (fun j => T.contains j && (anc md ops k (dep md ops i)).contains j)
    && (((ops[i]?).map (·.looksAt ops)).getD []).all (fun t => T.all fun j => (dst j != some t) || (D i).contains j)
def ok (md : Region.Mode) (ops : Array Oper) (T : List Nat) (dst : Nat → Option Tmp) (D : Nat → List Nat) (k sz : Nat) : Bool :=
  Region.noSelect ops && T.all (okAt md ops T dst D k sz) && (List.range ops.size).all (fun x => (dep md ops x).all (fun y => decide (y < x)) && (T.contains x || T.all (anc md ops k (dep md ops x)).contains))

theorem okAt_spec {md : Region.Mode} {ops : Array Oper} {T : List Nat} {dst : Nat → Option Tmp} {D : Nat → List Nat} {k sz i : Nat} (h : okAt md ops T dst D k sz i = true) :
    i < ops.size ∧ (ops[i]?).bind (·.dst) = dst i ∧ (∀ d, dst i = some d → d < sz) ∧ (∀ j ∈ T, ∀ d, dst i = some d → dst j = some d → i = j) ∧ (∀ j ∈ D i, j ∈ T ∧ j ∈ anc md ops k (dep md ops i)) ∧ (∀ o, ops[i]? = some o → ∀ t ∈ o.looksAt ops, ∀ j ∈ T, dst j = some t → j ∈ D i) := by
  unfold okAt at h
  simp only [Bool.and_eq_true, decide_eq_true_eq, beq_iff_eq, List.all_eq_true, Bool.or_eq_true, bne_iff_ne, ne_eq, List.contains_iff_mem] at h
  obtain ⟨⟨⟨⟨⟨h1, h2⟩, h3⟩, h4⟩, h5⟩, h6⟩ := h
  refine ⟨h1, h2, fun d hd => ?_, fun j hj d hd hd2 => ?_, h5, fun o ho t ht j hj hd => ?_⟩
  · rw [hd] at h3
    simpa using h3
  · rcases h4 j hj with (e | e) | e
    · exact e
    · rw [hd] at e; cases e
    · exact absurd (hd.trans hd2.symm) e
  · rw [ho] at h6
    rcases h6 t ht j hj with e | e
    · exact absurd hd e
    · exact e

theorem wpOp_frame {P : Program} {ops : Array Oper} {Q : Exit → Act → World → Prop} {i : Nat} {o : Oper} {a b : Act} {w : World} {R : Value → World → Prop} (ho : ops[i]? = some o) (hs : ∀ cs c, o.op ≠ .select cs c)
    (hag : ∀ t ∈ o.looksAt ops, a.tmps[t]? = b.tmps[t]?) (hQ : ∀ c a b w, Q (.panic c) b w → Q (.panic c) a w) (hsz : ∀ d, o.dst = some d → d < b.tmps.size)
    (h : wpOp P ops Q i (fun a' w' => ∃ v, a' = b.put o.dst v ∧ R v w') b w) : wpOp P ops Q i (fun a' w' => ∃ v, a' = a.put o.dst v ∧ R v w') a w := by
  have he : execOp a.eval o = execOp b.eval o := execOp_congr o hs fun x hx => by
    cases x with
    | tmp t =>
      have : t ∈ o.looksAt ops := List.mem_append_left _ (List.mem_filterMap.2 ⟨.tmp t, by simpa using hx, rfl⟩)
      simp only [Act.eval, Array.getD_eq_getD_getElem?, hag t this]
    | _ => rfl
  have hw : Region.wanted o (yielded ops a.tmps) = Region.wanted o (yielded ops b.tmps) := by
    unfold Region.wanted
    cases hg : o.guard with
    | none => rfl
    | some gw =>
      obtain ⟨g, want⟩ := gw
      have hy : yielded ops a.tmps g = yielded ops b.tmps g := by
        unfold yielded
        cases ht : (ops[g]?).bind (·.dst) with
        | none => rfl
        | some t =>
          have : t ∈ o.looksAt ops := by simp [Oper.looksAt, hg, ht]
          simp only [Option.bind_some, hag t this]
      simp only [hy]
  have conv : ∀ u w', (∃ v, b.put o.dst u = b.put o.dst v ∧ R v w') → ∃ v, a.put o.dst u = a.put o.dst v ∧ R v w' := by
    rintro u w' ⟨v, e, hr⟩
    cases hd : o.dst with
    | none => exact ⟨v, rfl, hr⟩
    | some d =>
      rw [hd] at e
      have e1 := congrArg (fun c : Act => c.tmps[d]?) e
      simp only [put_get_same (hsz d hd)] at e1
      cases e1
      exact ⟨u, rfl, hr⟩
  unfold wpOp at *
  simp only [ho] at *
  rw [hw]
  split
  · rename_i hwt
    simp only [hwt, if_true] at h
    rcases h with h | ⟨hasks, hlets⟩
    case inr => exact .inr ⟨by unfold Oper.asks at *; rw [he]; exact hasks, hlets⟩
    refine .inl ?_
    unfold Oper.wp at *
    rw [he]
    generalize (execOp b.eval o).run P w = r at *
    cases r with
    | ok n w' =>
      cases n <;> simp only [Oper.upon] at h ⊢
      case value u => exact conv u _ h
      case skip => exact conv _ _ h
      case defer d =>
        obtain ⟨v, e, _⟩ := h
        have e1 := congrArg (fun c : Act => c.defers.length) e
        simp [put_defers] at e1
      case enter f args =>
        refine Calls.mono h fun e w'' he => ?_
        cases e with
        | returned u => exact conv u _ he
        | panicked c => exact hQ _ _ _ _ he
        | outgrown => exact he
      case row row args => exact Rows.mono h fun u w'' he => conv u _ he
    | halt x w' =>
      cases x <;> simp only [Oper.upon] at h ⊢
      case panic u => exact hQ _ _ _ _ h
  · rename_i hwt
    simp only [hwt] at h
    exact conv _ _ h

theorem nodup_le : ∀ {l m : List Nat}, l.Nodup → (∀ x ∈ l, x ∈ m) → l.length ≤ m.length
  | [], _, _, _ => Nat.zero_le _
  | x :: l, m, hn, hs => by
    have hx : x ∈ m := hs x (by simp)
    have hn' := List.nodup_cons.1 hn
    have := nodup_le (l := l) (m := m.erase x) hn'.2 (fun y hy => by
      have hne : y ≠ x := fun e => hn'.1 (e ▸ hy)
      exact (List.mem_erase_of_ne hne).2 (hs y (by simp [hy])))
    have hl := List.length_erase_of_mem hx
    have hp : 0 < m.length := List.length_pos_of_mem hx
    simp only [List.length_cons]
    omega

/-- Which have come up, as the region keeps it. -/
def mark (T : List Nat) (n : Nat) : Array Bool := T.foldl (fun L i => L.setIfInBounds i true) (Array.replicate n false)
def Good (n : Nat) (l : List Nat) (L : Array Bool) : Prop := L.size = n ∧ ∀ j, j < n → L[j]? = some (decide (j ∈ l))
theorem Good.set {n : Nat} {l : List Nat} {L : Array Bool} (h : Good n l L) (i : Nat) : Good n (l ++ [i]) (L.setIfInBounds i true) := by
  refine ⟨by simpa using h.1, fun j hj => ?_⟩
  rw [Array.getElem?_setIfInBounds]
  by_cases e : i = j
  · subst e
    simp [h.1, hj]
  · rw [if_neg e, h.2 j hj]
    have : j ≠ i := fun x => e x.symm
    simp [this]
theorem Good.eq {n : Nat} {l m : List Nat} {L M : Array Bool} (h : Good n l L) (k : Good n m M) (hs : ∀ j, j ∈ l ↔ j ∈ m) : L = M := by
  apply Array.ext_getElem?
  intro j
  by_cases hj : j < n
  · rw [h.2 j hj, k.2 j hj]
    simp [hs j]
  · rw [Array.getElem?_eq_none (by rw [h.1]; omega), Array.getElem?_eq_none (by rw [k.1]; omega)]
theorem good_nil (n : Nat) : Good n [] (Array.replicate n false) := ⟨by simp, fun j hj => by simp [hj]⟩
theorem good_fold {n : Nat} : ∀ (T l : List Nat) (L : Array Bool), Good n l L → Good n (l ++ T) (T.foldl (fun L i => L.setIfInBounds i true) L)
  | [], l, L, h => by simpa using h
  | i :: T, l, L, h => by
    have := good_fold T (l ++ [i]) _ (h.set i)
    simpa using this
theorem good_mark (T : List Nat) (n : Nat) : Good n T (mark T n) := by
  have := good_fold T [] _ (good_nil n)
  rw [List.nil_append] at this
  exact this

section
variable {P : Program} {md : Region.Mode} {ops : Array Oper} {Q : Exit → Act → World → Prop} {a0 : Act} {T : List Nat} {dst : Nat → Option Tmp} {D : Nat → List Nat} {k : Nat}
    {Φ : Nat → Value → World → Prop} {J : World → Prop} {St : World → World → Prop}

/-- What each operation must do. -/
def Steps (P : Program) (ops : Array Oper) (Q : Exit → Act → World → Prop) (a0 : Act) (dst : Nat → Option Tmp) (D : Nat → List Nat) (Φ : Nat → Value → World → Prop) (J : World → Prop) (St : World → World → Prop) (T : List Nat) : Prop :=
  ∀ i ∈ T, ∀ vs w, J w → (∀ j ∈ D i, Φ j (vs j) w) → wpOp P ops Q i (fun a' w' => ∃ v, a' = (base dst vs (D i) a0).put (dst i) v ∧ Φ i v w' ∧ St w w') (base dst vs (D i) a0) w
theorem Steps.nil : Steps P ops Q a0 dst D Φ J St [] := fun _ h => by cases h
theorem Steps.cons {i : Nat} {o : Oper} {r : List Nat} (ho : ops[i]? = some o)
    (h : ∀ vs w, J w → (∀ j ∈ D i, Φ j (vs j) w) → ∀ K : Act → World → Prop, Shut (∀ v w', Φ i v w' → St w w' → K ((base dst vs (D i) a0).put (dst i) v) w') →
      if Region.wanted o (yielded ops (base dst vs (D i) a0).tmps) = true then Oper.wp P o (base dst vs (D i) a0) w K Q else K ((base dst vs (D i) a0).put o.dst undef) w)
    (hs : Steps P ops Q a0 dst D Φ J St r) : Steps P ops Q a0 dst D Φ J St (i :: r) := fun j hj => by
  rcases List.mem_cons.1 hj with rfl | hj
  · exact fun vs w hJ hd => wpOp_step ho (fun K hK => h vs w hJ hd K (fun v w' h1 h2 => hK _ _ ⟨v, rfl, h1, h2⟩))
  · exact hs j hj

theorem wpAny_joint (w0 : World) (hok : ok md ops T dst D k a0.tmps.size = true) (hnd : T.Nodup) (hQ : ∀ c a b w, Q (.panic c) b w → Q (.panic c) a w)
    (hst : ∀ i ∈ T, ∀ v w w', Φ i v w → St w w' → Φ i v w') (hJs : ∀ w w', J w → St w w' → J w') (hJ : J w0)
    (step : Steps P ops Q a0 dst D Φ J St T)
    (fin : ∀ vs w, J w → (∀ j ∈ T, Φ j (vs j) w) → wpAny P md ops Q (ops.size - T.length) (mark T ops.size) (base dst vs T a0) w) :
    wpAny P md ops Q ops.size (Array.replicate ops.size false) a0 w0 := by
  unfold ok at hok
  simp only [Bool.and_eq_true, List.all_eq_true, List.mem_range, Bool.or_eq_true, decide_eq_true_eq, List.contains_iff_mem] at hok
  obtain ⟨⟨hsel, hT⟩, hx⟩ := hok
  have hinj : ∀ i ∈ T, ∀ j ∈ T, ∀ d, dst i = some d → dst j = some d → i = j := fun i hi j hj d => (okAt_spec (hT i hi)).2.2.2.1 j hj d
  have go : ∀ (fuel : Nat) (l : List Nat) (vs : Nat → Value) (w : World) (L : Array Bool), fuel + l.length = ops.size → l.Nodup → (∀ j ∈ l, j ∈ T) → (∀ j ∈ l, ∀ x ∈ dep md ops j, x ∈ l) → Good ops.size l L → J w → (∀ j ∈ l, Φ j (vs j) w) → wpAny P md ops Q fuel L (base dst vs l a0) w := by
    intro fuel
    induction fuel with
    | zero =>
      intro l vs w L hf hn hl hcl hg hJ hΦ
      by_cases hall : ∀ j ∈ T, j ∈ l
      · have hs : ∀ j, j ∈ l ↔ j ∈ T := fun j => ⟨hl j, hall j⟩
        have h1 := nodup_le hn hl
        have h2 := nodup_le hnd hall
        have := fin vs w hJ (fun j hj => hΦ j (hall j hj))
        rw [← hg.eq (good_mark T ops.size) hs, ← base_same hinj hl (fun _ h => h) hs, show ops.size - T.length = 0 by omega] at this
        exact this
      · exfalso
        obtain ⟨j, hj⟩ := Classical.not_forall.1 hall
        obtain ⟨hj, hjl⟩ := Classical.not_imp.1 hj
        have := nodup_le (l := j :: l) (m := List.range ops.size) (List.nodup_cons.2 ⟨hjl, hn⟩) (fun x hx => List.mem_range.2 (by
          rcases List.mem_cons.1 hx with rfl | hx
          · exact (okAt_spec (hT x hj)).1
          · exact (okAt_spec (hT x (hl x hx))).1))
        simp at this
        omega
    | succ fuel ih =>
      intro l vs w L hf hn hl hcl hg hJ hΦ
      by_cases hall : ∀ j ∈ T, j ∈ l
      · have hs : ∀ j, j ∈ l ↔ j ∈ T := fun j => ⟨hl j, hall j⟩
        have h1 := nodup_le hn hl
        have h2 := nodup_le hnd hall
        have := fin vs w hJ (fun j hj => hΦ j (hall j hj))
        rw [← hg.eq (good_mark T ops.size) hs, ← base_same hinj hl (fun _ h => h) hs, show ops.size - T.length = fuel + 1 by omega] at this
        exact this
      · obtain ⟨j0, hj0⟩ := Classical.not_forall.1 hall
        obtain ⟨hj0, hj0l⟩ := Classical.not_imp.1 hj0
        have rdy : ∀ m, m < ops.size → m ∉ l → ∃ r, r ∈ Region.ready md ops L := by
          intro m
          induction m using Nat.strongRecOn with
          | ind m ihm =>
            intro hm hml
            by_cases hd : ∀ x ∈ dep md ops m, x ∈ l
            · refine ⟨m, mem_ready.2 ⟨by rw [Array.getD_eq_getD_getElem?, hg.2 m hm]; simp [hml], ops[m], by simp [hm], fun e he hb => ?_⟩⟩
              have : e.on ∈ dep md ops m := by
                simp only [dep, hm, Array.getElem?_eq_getElem, Option.map_some, Option.getD_some]
                exact List.mem_map.2 ⟨e, List.mem_filter.2 ⟨by simpa using he, hb⟩, rfl⟩
              have hlt := (okAt_spec (hT _ (hl _ (hd _ this)))).1
              rw [Array.getD_eq_getD_getElem?, hg.2 _ hlt]
              simp [hd _ this]
            · obtain ⟨x, hx1⟩ := Classical.not_forall.1 hd
              obtain ⟨hx1, hx2⟩ := Classical.not_imp.1 hx1
              have hlt := (hx m hm).1 x hx1
              exact ihm x hlt (by omega) hx2
        refine ⟨fun hr => ?_, fun i hi => ?_⟩
        · obtain ⟨r, hr2⟩ := rdy j0 (okAt_spec (hT j0 hj0)).1 hj0l
          rw [hr] at hr2
          cases hr2
        · obtain ⟨h0, o, ho, haf⟩ := mem_ready.1 hi
          have hlt : i < ops.size := (Array.getElem?_eq_some_iff.1 ho).1
          have hil : i ∉ l := by
            rw [Array.getD_eq_getD_getElem?, hg.2 i hlt] at h0
            simpa using h0
          have hdep : ∀ x ∈ dep md ops i, x ∈ l := by
            intro x hx1
            simp only [dep, ho, Option.map_some, Option.getD_some] at hx1
            obtain ⟨e, he, rfl⟩ := List.mem_map.1 hx1
            obtain ⟨he1, he2⟩ := List.mem_filter.1 he
            have h1 := haf e (by simpa using he1) he2
            have h2 := (hx i hlt).1 e.on (by simp only [dep, ho, Option.map_some, Option.getD_some]; exact List.mem_map.2 ⟨e, he, rfl⟩)
            rw [Array.getD_eq_getD_getElem?, hg.2 _ (by omega)] at h1
            simpa using h1
          have hiT : i ∈ T := by
            rcases (hx i hlt).2 with h | h
            · exact h
            · exact absurd (anc_sub hcl k _ hdep j0 (h j0 hj0)) hj0l
          obtain ⟨_, hds, hsz, hin, hD, hlk⟩ := okAt_spec (hT i hiT)
          have hds' : o.dst = dst i := by rw [← hds, ho]; rfl
          have hDl : ∀ j ∈ D i, j ∈ l := fun j hj => anc_sub hcl k _ hdep j (hD j hj).2
          have hstep := step i hiT vs w hJ (fun j hj => hΦ j (hDl j hj))
          rw [← hds'] at hstep
          have hag : ∀ t ∈ o.looksAt ops, (base dst vs l a0).tmps[t]? = (base dst vs (D i) a0).tmps[t]? := by
            intro t ht
            by_cases h : ∃ j ∈ l, dst j = some t
            · obtain ⟨j, hj, hd⟩ := h
              have htz : t < a0.tmps.size := (okAt_spec (hT j (hl j hj))).2.2.1 t hd
              have hjD := hlk o ho t ht j (hl j hj) hd
              rw [base_hit hd l a0 hj htz (fun x hx hx2 => hinj x (hl x hx) j (hl j hj) t hx2 hd), base_hit hd (D i) a0 hjD htz (fun x hx hx2 => hinj x (hl x (hDl x hx)) j (hl j hj) t hx2 hd)]
            · rw [base_miss l a0 (fun j hj hd => h ⟨j, hj, hd⟩), base_miss (D i) a0 (fun j hj hd => h ⟨j, hDl j hj, hd⟩)]
          have := wpOp_frame ho (Region.noSelect_spec hsel i o · · ho) hag hQ (fun d hd => by rw [base_size]; exact hsz d (hds' ▸ hd)) hstep
          refine wpOp_mono ?_ this
          rintro a' w' ⟨v, rfl, h1, h2⟩
          have e : (base dst vs l a0).put o.dst v = base dst (fun x => if x = i then v else vs x) (l ++ [i]) a0 := by
            rw [base_snoc, if_pos rfl, hds']
            congr 1
            exact base_vs l a0 (fun j hj => by
              have hne : j ≠ i := fun e => hil (e ▸ hj)
              rw [if_neg hne])
          rw [e]
          refine ih (l ++ [i]) _ w' _ (by simp; omega) ?_ ?_ ?_ (hg.set i) (hJs w w' hJ h2) ?_
          · rw [List.nodup_append]
            refine ⟨hn, by simp, fun x hx y hy => ?_⟩
            simp at hy
            subst hy
            exact fun e => hil (e ▸ hx)
          · intro j hj
            rcases List.mem_append.1 hj with h | h
            · exact hl j h
            · simp at h; subst h; exact hiT
          · intro j hj x hx1
            rcases List.mem_append.1 hj with h | h
            · exact List.mem_append_left _ (hcl j h x hx1)
            · simp at h; subst h; exact List.mem_append_left _ (hdep x hx1)
          · intro j hj
            rcases List.mem_append.1 hj with h | h
            · have hne : j ≠ i := fun e => hil (e ▸ h)
              simp only [if_neg hne]
              exact hst j (hl j h) _ _ _ (hΦ j h) h2
            · simp at h; subst h; simpa using h1
  exact go ops.size [] (fun _ => undef) w0 _ (by simp) (by simp) (fun _ h => by cases h) (fun _ h => by cases h) (good_nil _) hJ (fun _ h => by cases h)

/-- A whole region by it. -/
theorem wp_region_joint {id : Nat} {w : World} (hm : P.follows .mixedOrders = true) (hok : ok .any ops T dst D k a0.tmps.size = true) (hnd : T.Nodup) (hQ : ∀ c a b w, Q (.panic c) b w → Q (.panic c) a w)
    (hst : ∀ i ∈ T, ∀ v w w', Φ i v w → St w w' → Φ i v w') (hJs : ∀ w w', J w → St w w' → J w') (hJ : J w.drew)
    (step : Steps P ops Q a0 dst D Φ J St T)
    (fin : ∀ vs w, J w → (∀ j ∈ T, Φ j (vs j) w) → wpAny P .any ops Q (ops.size - T.length) (mark T ops.size) (base dst vs T a0) w) :
    (Code.region id ops true).wp P Q a0 w := wp_region_any hm (wpAny_joint _ hok hnd hQ hst hJs hJ step fin)
end
end Go.Proofs.YteoeoppkefcmdaaDoor.Jo

/-
  Plain arithmetic of limbs to the base 2^32, lowest first: the number of a list of limbs, the trim limbs of a number, and what follows of them. No condition; no Go text.
-/
namespace Go.Proofs.YteoeoppkefcmdaaDoor
set_option linter.unusedVariables false

/-- The number of a list of limbs. -/
def val : List Nat → Nat
  | [] => 0
  | x :: xs => x + 4294967296 * val xs

/-- Each limb is less than the base. -/
def Lim (xs : List Nat) : Prop := ∀ x ∈ xs, x < 4294967296

/-- The trim limbs of a number. -/
def limbs (n : Nat) : List Nat := if _h : n = 0 then [] else n % 4294967296 :: limbs (n / 4294967296)
  termination_by n
  decreasing_by omega

theorem limbs_zero : limbs 0 = [] := by rw [limbs]; simp
theorem limbs_pos {n : Nat} (h : n ≠ 0) : limbs n = n % 4294967296 :: limbs (n / 4294967296) := by rw [limbs]; simp [h]

theorem Lim.nil : Lim [] := fun _ h => absurd h (by simp)
theorem Lim.cons {x : Nat} {xs : List Nat} (hx : x < 4294967296) (h : Lim xs) : Lim (x :: xs) := fun y hy => by
  rcases List.mem_cons.1 hy with rfl | hy
  · exact hx
  · exact h y hy
theorem Lim.head {x : Nat} {xs : List Nat} (h : Lim (x :: xs)) : x < 4294967296 := h x (by simp)
theorem Lim.tail {x : Nat} {xs : List Nat} (h : Lim (x :: xs)) : Lim xs := fun y hy => h y (by simp [hy])
theorem Lim.append {xs ys : List Nat} (h : Lim xs) (k : Lim ys) : Lim (xs ++ ys) := fun y hy => by
  rcases List.mem_append.1 hy with hy | hy
  · exact h y hy
  · exact k y hy
theorem Lim.take {xs : List Nat} (h : Lim xs) (n : Nat) : Lim (xs.take n) := fun y hy => h y (List.mem_of_mem_take hy)
theorem Lim.drop {xs : List Nat} (h : Lim xs) (n : Nat) : Lim (xs.drop n) := fun y hy => h y (List.mem_of_mem_drop hy)
theorem Lim.set {xs : List Nat} (h : Lim xs) (i : Nat) {x : Nat} (hx : x < 4294967296) : Lim (xs.set i x) := fun y hy => by
  rcases List.mem_or_eq_of_mem_set hy with hy | rfl
  · exact h y hy
  · exact hx
theorem Lim.getD {xs : List Nat} (h : Lim xs) (i : Nat) : xs.getD i 0 < 4294967296 := by
  rw [List.getD_eq_getElem?_getD]
  rcases e : xs[i]? with _ | y
  · simp
  · exact h y (List.mem_of_getElem? e)
theorem Lim.replicate (n : Nat) : Lim (List.replicate n 0) := fun y hy => by rw [(List.mem_replicate.1 hy).2]; decide

theorem lim_limbs (n : Nat) : Lim (limbs n) := by
  induction n using Nat.strongRecOn with
  | ind n ih =>
    by_cases h : n = 0
    · subst h; rw [limbs_zero]; exact Lim.nil
    · rw [limbs_pos h]
      exact Lim.cons (Nat.mod_lt _ (by decide)) (ih _ (by omega))

theorem val_nil : val [] = 0 := rfl
theorem val_cons (x : Nat) (xs : List Nat) : val (x :: xs) = x + 4294967296 * val xs := rfl

theorem val_limbs (n : Nat) : val (limbs n) = n := by
  induction n using Nat.strongRecOn with
  | ind n ih =>
    by_cases h : n = 0
    · subst h; rw [limbs_zero]; rfl
    · rw [limbs_pos h, val_cons, ih _ (by omega)]
      omega

theorem val_append (xs ys : List Nat) : val (xs ++ ys) = val xs + 4294967296 ^ xs.length * val ys := by
  induction xs with
  | nil => simp [val]
  | cons x xs ih =>
    rw [List.cons_append, val_cons, ih, val_cons, List.length_cons, Nat.pow_succ, Nat.mul_add, Nat.mul_comm (4294967296 ^ xs.length) 4294967296, Nat.mul_assoc]
    omega

theorem val_snoc (xs : List Nat) (x : Nat) : val (xs ++ [x]) = val xs + 4294967296 ^ xs.length * x := by
  rw [val_append]; simp [val]

theorem val_take_succ {xs : List Nat} {k : Nat} (h : k < xs.length) : val (xs.take (k + 1)) = val (xs.take k) + 4294967296 ^ k * xs.getD k 0 := by
  rw [List.take_succ_eq_append_getElem h, val_snoc, List.length_take, Nat.min_eq_left (by omega), List.getD_eq_getElem?_getD, List.getElem?_eq_getElem h]
  rfl

theorem val_take_drop (xs : List Nat) {k : Nat} (h : k ≤ xs.length) : val xs = val (xs.take k) + 4294967296 ^ k * val (xs.drop k) := by
  have := val_append (xs.take k) (xs.drop k)
  rw [List.take_append_drop, List.length_take, Nat.min_eq_left h] at this
  exact this

theorem val_drop {xs : List Nat} {k : Nat} (h : k < xs.length) : val (xs.drop k) = xs.getD k 0 + 4294967296 * val (xs.drop (k + 1)) := by
  rw [List.drop_eq_getElem_cons h, val_cons, List.getD_eq_getElem?_getD, List.getElem?_eq_getElem h]
  rfl

theorem val_lt {xs : List Nat} (h : Lim xs) : val xs < 4294967296 ^ xs.length := by
  induction xs with
  | nil => simp [val]
  | cons x xs ih =>
    have h1 := ih h.tail
    have h2 := h.head
    rw [val_cons, List.length_cons, Nat.pow_succ]
    have : val xs + 1 ≤ 4294967296 ^ xs.length := h1
    have := Nat.mul_le_mul_right 4294967296 this
    rw [Nat.add_mul] at this
    omega

theorem val_zeros (n : Nat) : val (List.replicate n 0) = 0 := by
  induction n with
  | zero => rfl
  | succ n ih => rw [List.replicate_succ, val_cons, ih]

/-- A list that is trim is the trim limbs of its number. -/
theorem limbs_val : ∀ {xs : List Nat}, Lim xs → (∀ h : xs ≠ [], xs.getLast h ≠ 0) → limbs (val xs) = xs
  | [], _, _ => limbs_zero
  | x :: xs, hl, ht => by
    have hx := hl.head
    have h1 : limbs (val xs) = xs := limbs_val hl.tail fun h => by
      have := ht (by simp)
      rwa [List.getLast_cons h] at this
    have hne : val (x :: xs) ≠ 0 := by
      intro h0
      rw [val_cons] at h0
      have hx0 : x = 0 := by omega
      have hv0 : val xs = 0 := by omega
      rw [hv0, limbs_zero] at h1
      subst h1
      exact ht (by simp) (by simpa using hx0)
    rw [limbs_pos hne, val_cons, show (x + 4294967296 * val xs) % 4294967296 = x by omega, show (x + 4294967296 * val xs) / 4294967296 = val xs by omega, h1]

theorem limbs_inj {a b : Nat} (h : limbs a = limbs b) : a = b := by rw [← val_limbs a, h, val_limbs]

theorem limbs_length_le {n k : Nat} (h : n < 4294967296 ^ k) : (limbs n).length ≤ k := by
  induction k generalizing n with
  | zero => simp at h; subst h; rw [limbs_zero]; simp
  | succ k ih =>
    by_cases h0 : n = 0
    · subst h0; rw [limbs_zero]; simp
    · rw [limbs_pos h0, List.length_cons]
      have : n / 4294967296 < 4294967296 ^ k := by
        rw [Nat.pow_succ, Nat.mul_comm] at h
        exact Nat.div_lt_of_lt_mul h
      have := ih this
      omega

theorem limbs_length_lt {n k : Nat} (h : 4294967296 ^ k ≤ n) : k < (limbs n).length := by
  rcases Nat.lt_or_ge k (limbs n).length with h1 | h1
  · exact h1
  · have := val_lt (lim_limbs n)
    rw [val_limbs] at this
    have := Nat.pow_le_pow_right (n := 4294967296) (by decide) h1
    omega

theorem limbs_length_mono {a b : Nat} (h : a ≤ b) : (limbs a).length ≤ (limbs b).length := by
  apply limbs_length_le
  have := val_lt (lim_limbs b)
  rw [val_limbs] at this
  omega

theorem limbs_eq_nil {n : Nat} : limbs n = [] ↔ n = 0 := by
  constructor
  · intro h
    rw [← val_limbs n, h]; rfl
  · intro h; subst h; exact limbs_zero

theorem limbs_length_zero {n : Nat} : (limbs n).length = 0 ↔ n = 0 := by rw [List.length_eq_zero_iff, limbs_eq_nil]

theorem val_limbs_le {xs : List Nat} (h : Lim xs) : (limbs (val xs)).length ≤ xs.length := limbs_length_le (val_lt h)

/-- The last limb of trim limbs is not nought. -/
theorem limbs_last {n : Nat} (h : n ≠ 0) : (limbs n).getD ((limbs n).length - 1) 0 ≠ 0 := by
  intro h0
  have hl : (limbs n).length ≠ 0 := fun e => h (limbs_length_zero.1 e)
  have h1 := val_take_succ (xs := limbs n) (k := (limbs n).length - 1) (by omega)
  rw [h0, show (limbs n).length - 1 + 1 = (limbs n).length by omega, List.take_length, val_limbs] at h1
  have h2 := val_lt ((lim_limbs n).take ((limbs n).length - 1))
  rw [List.length_take, Nat.min_eq_left (by omega)] at h2
  have h3 := limbs_length_le (n := n) (k := (limbs n).length - 1) (by omega)
  omega

/-- What is left when noughts are cut off the end is the trim limbs: if all from k on are nought, and the one before k is not. -/
theorem take_eq_limbs {xs : List Nat} {k : Nat} (hl : Lim xs) (hk : k ≤ xs.length) (h0 : val (xs.drop k) = 0) (hn : 0 < k → xs.getD (k - 1) 0 ≠ 0) : xs.take k = limbs (val xs) := by
  have h1 : val xs = val (xs.take k) := by rw [val_take_drop xs hk, h0]; simp
  rw [h1, limbs_val (hl.take k)]
  intro h
  have hk0 : 0 < k := by
    rcases Nat.eq_zero_or_pos k with e | e
    · subst e; simp at h
    · exact e
  have := hn hk0
  rw [List.getLast_eq_getElem]
  rw [List.getD_eq_getElem?_getD, List.getElem?_eq_getElem (by omega)] at this
  simp only [Option.getD_some] at this
  rw [List.getElem_take]
  have e : (xs.take k).length - 1 = k - 1 := by rw [List.length_take, Nat.min_eq_left hk]
  simp only [e]
  exact this

theorem getD_take {xs : List Nat} {k i : Nat} (h : i < k) : (xs.take k).getD i 0 = xs.getD i 0 := by
  rw [List.getD_eq_getElem?_getD, List.getElem?_take, if_pos h, List.getD_eq_getElem?_getD]

theorem getD_drop {xs : List Nat} {k i : Nat} : (xs.drop k).getD i 0 = xs.getD (k + i) 0 := by
  rw [List.getD_eq_getElem?_getD, List.getElem?_drop, List.getD_eq_getElem?_getD]

/-- Trim limbs are the first ones of any limbs of their number. -/
theorem limbs_prefix {xs : List Nat} (hl : Lim xs) : xs.take (limbs (val xs)).length = limbs (val xs) := by
  have hk := val_limbs_le hl
  have ht := val_take_drop xs hk
  have h2 : val (xs.drop (limbs (val xs)).length) = 0 := by
    have := val_lt (lim_limbs (val xs))
    rw [val_limbs] at this
    rcases Nat.eq_zero_or_pos (val (xs.drop (limbs (val xs)).length)) with e | e
    · exact e
    · have := Nat.le_mul_of_pos_right (4294967296 ^ (limbs (val xs)).length) e
      omega
  have hv : val (xs.take (limbs (val xs)).length) = val xs := by rw [h2] at ht; simpa using ht.symm
  apply take_eq_limbs hl hk h2
  intro hp he
  have hne : val xs ≠ 0 := fun e => by rw [e, limbs_zero] at hp; simp at hp
  have h3 := val_take_succ (xs := xs) (k := (limbs (val xs)).length - 1) (by omega)
  rw [he, show (limbs (val xs)).length - 1 + 1 = (limbs (val xs)).length by omega, hv] at h3
  have h4 := val_lt (hl.take ((limbs (val xs)).length - 1))
  rw [List.length_take, Nat.min_eq_left (by omega)] at h4
  have h5 := limbs_length_le (n := val xs) (k := (limbs (val xs)).length - 1) (by omega)
  omega

/-- One limb less, all above it the same: the number is less. -/
theorem val_lt_of_limb {xs ys : List Nat} {i : Nat} (hl : Lim xs) (hi : i < xs.length) (hj : i < ys.length) (ha : val (xs.drop (i + 1)) = val (ys.drop (i + 1))) (h : xs.getD i 0 < ys.getD i 0) : val xs < val ys := by
  rw [val_take_drop xs (k := i) (by omega), val_take_drop ys (k := i) (by omega), val_drop hi, val_drop hj, ha]
  have h1 := val_lt (hl.take i)
  rw [List.length_take, Nat.min_eq_left (by omega)] at h1
  have h2 := Nat.mul_le_mul_left (4294967296 ^ i) (show xs.getD i 0 + 4294967296 * val (ys.drop (i + 1)) + 1 ≤ ys.getD i 0 + 4294967296 * val (ys.drop (i + 1)) by omega)
  rw [Nat.mul_add, Nat.mul_one] at h2
  omega

/-- A limb at place n - 1 - k, all above it the same. -/
theorem val_limb_cases {xs ys : List Nat} {n k : Nat} (h1 : Lim xs) (h2 : Lim ys) (l1 : xs.length = n) (l2 : ys.length = n) (hk : k < n) (hz : val (xs.drop (n - k)) = val (ys.drop (n - k))) :
    (xs.getD (n - 1 - k) 0 < ys.getD (n - 1 - k) 0 → val xs < val ys) ∧ (ys.getD (n - 1 - k) 0 < xs.getD (n - 1 - k) 0 → val ys < val xs) ∧
      (xs.getD (n - 1 - k) 0 = ys.getD (n - 1 - k) 0 → val (xs.drop (n - 1 - k)) = val (ys.drop (n - 1 - k))) := by
  have e : n - 1 - k + 1 = n - k := by omega
  refine ⟨fun h => val_lt_of_limb h1 (by omega) (by omega) (by rw [e]; exact hz) h, fun h => val_lt_of_limb h2 (by omega) (by omega) (by rw [e]; exact hz.symm) h, fun h => ?_⟩
  have a := val_drop (xs := xs) (k := n - 1 - k) (by omega)
  have b := val_drop (xs := ys) (k := n - 1 - k) (by omega)
  rw [e] at a b
  rw [a, b, hz, h]

theorem limbs_length_lt_of_lt {a b : Nat} (h : (limbs a).length < (limbs b).length) : a < b := by
  rcases Nat.lt_or_ge a b with h1 | h1
  · exact h1
  · have := limbs_length_mono h1
    omega

/-- The limbs l, with those from place o on replaced by zs. -/
def mid (l : List Nat) (o : Nat) (zs : List Nat) : List Nat := l.take o ++ zs ++ l.drop (o + zs.length)

theorem mid_nil (l : List Nat) (o : Nat) : mid l o [] = l := by simp [mid]
theorem mid_length {l zs : List Nat} {o : Nat} (h : o + zs.length ≤ l.length) : (mid l o zs).length = l.length := by simp [mid]; omega
theorem mid_lim {l zs : List Nat} {o : Nat} (h : Lim l) (k : Lim zs) : Lim (mid l o zs) := ((h.take o).append k).append (h.drop _)
theorem mid_getD {l zs : List Nat} {o : Nat} (h : o + zs.length < l.length) : (mid l o zs).getD (o + zs.length) 0 = l.getD (o + zs.length) 0 := by
  have e : (l.take o ++ zs).length = o + zs.length := by simp; omega
  unfold mid
  rw [List.getD_eq_getElem?_getD, List.getElem?_append_right (by omega), e, Nat.sub_self, List.getElem?_drop, Nat.add_zero, List.getD_eq_getElem?_getD]
theorem mid_set {l zs : List Nat} {o x : Nat} (h : o + zs.length < l.length) : (mid l o zs).set (o + zs.length) x = mid l o (zs ++ [x]) := by
  have e : (l.take o ++ zs).length = o + zs.length := by simp; omega
  unfold mid
  rw [List.set_append_right _ _ (by omega), e, Nat.sub_self, List.drop_eq_getElem_cons h, List.set_cons_zero, List.length_append, List.length_singleton, Nat.add_assoc]
  simp
theorem mid_take {l zs : List Nat} {o : Nat} (h : o + zs.length ≤ l.length) : (mid l o zs).take o = l.take o := by
  have e : (l.take o).length = o := by simp; omega
  unfold mid
  rw [List.append_assoc, List.take_append_of_le_length (by omega), List.take_of_length_le (by omega)]
theorem mid_drop {l zs : List Nat} {o : Nat} (h : o + zs.length ≤ l.length) : (mid l o zs).drop (o + zs.length) = l.drop (o + zs.length) := by
  have e : (l.take o ++ zs).length = o + zs.length := by simp; omega
  unfold mid
  rw [List.drop_append_of_le_length (by omega), List.drop_eq_nil_of_le (by omega), List.nil_append]
theorem mid_mid {l zs ys : List Nat} {o : Nat} (h : o + zs.length ≤ l.length) (hl : ys.length = zs.length) : mid (mid l o zs) o ys = mid l o ys := by
  have e1 := mid_take h
  have e2 := mid_drop h
  rw [← hl] at e2
  show (mid l o zs).take o ++ ys ++ (mid l o zs).drop (o + ys.length) = l.take o ++ ys ++ l.drop (o + ys.length)
  rw [e1, e2]
theorem mid_seg {l zs : List Nat} {o : Nat} (h : o + zs.length ≤ l.length) : ((mid l o zs).drop o).take zs.length = zs := by
  have e : (l.take o).length = o := by simp; omega
  unfold mid
  rw [List.append_assoc, List.drop_append, List.drop_eq_nil_of_le (by omega), e]
  simp

theorem getD_seg {l : List Nat} {o n k : Nat} (h : k < n) : ((l.drop o).take n).getD k 0 = l.getD (o + k) 0 := by rw [getD_take h, getD_drop]

theorem val_take_all {xs : List Nat} {k : Nat} (h : xs.length ≤ k) : val (xs.take k) = val xs := by rw [List.take_of_length_le h]
theorem getD_beyond {xs : List Nat} {k : Nat} (h : xs.length ≤ k) : xs.getD k 0 = 0 := by rw [List.getD_eq_getElem?_getD, List.getElem?_eq_none h]; rfl
/-- The first k + 1 limbs, also beyond the last one. -/
theorem val_take_more (xs : List Nat) (k : Nat) : val (xs.take (k + 1)) = val (xs.take k) + 4294967296 ^ k * xs.getD k 0 := by
  rcases Nat.lt_or_ge k xs.length with h | h
  · exact val_take_succ h
  · rw [val_take_all (by omega), val_take_all h, getD_beyond h, Nat.mul_zero, Nat.add_zero]

/-- One step of a sum. -/
theorem add_step {p A Y v x y c : Nat} (h : v + c * p = A + Y) : (v + p * ((x + y + c) % 4294967296)) + (x + y + c) / 4294967296 * (p * 4294967296) = (A + p * x) + (Y + p * y) := by
  have e := Nat.mod_add_div (x + y + c) 4294967296
  have : p * ((x + y + c) % 4294967296) + (x + y + c) / 4294967296 * (p * 4294967296) = p * (x + y + c) := by
    conv => rhs; rw [← e, Nat.mul_add]
    grind
  grind
/-- One step of a product with one limb. -/
theorem mul_step {p A Y v x y c f : Nat} (h : v + c * p = A + f * Y) : (v + p * ((y * f + x + c) % 4294967296)) + (y * f + x + c) / 4294967296 * (p * 4294967296) = (A + p * x) + f * (Y + p * y) := by
  have e := Nat.mod_add_div (y * f + x + c) 4294967296
  have : p * ((y * f + x + c) % 4294967296) + (y * f + x + c) / 4294967296 * (p * 4294967296) = p * (y * f + x + c) := by
    conv => rhs; rw [← e, Nat.mul_add]
    grind
  grind

theorem pow32 (k : Nat) : 4294967296 ^ k = 2 ^ (k * 32) := by rw [show 4294967296 = 2 ^ 32 by decide, ← Nat.pow_mul, Nat.mul_comm]

end Go.Proofs.YteoeoppkefcmdaaDoor

/-
  Words for memory: a slice of uint32 that reads as a list of limbs, and a block of the call's own that is known whole. No condition but those of each lemma.
-/
namespace Go.Proofs.YteoeoppkefcmdaaDoor
open Go.RowKit
set_option linter.unusedVariables false

/-- A limb as a value. -/
def u32 (x : Nat) : Value := .int .u32 (x : Int)

/-- Limbs as a block's cells. -/
def arr (l : List Nat) : Array Value := (l.map u32).toArray

/-- The slice value '.slice A n c' reads as the limbs xs; if it has any they lie in block b. -/
def Sl (w : World) (b : Nat) (A : Option Addr) (n c : Nat) (xs : List Nat) : Prop :=
  xs.length = n ∧ n ≤ c ∧ n ≤ 1099511627776 ∧ Lim xs ∧ (0 < n → ∃ o, A = some ⟨b, o, none⟩ ∧ ∀ k, k < n → w.cell? ⟨b, o + k, none⟩ = some (.int .u32 (xs.getD k 0 : Nat)))

/-- Block g is just the limbs l, none frozen. -/
def Own (w : World) (g : Nat) (l : List Nat) : Prop := w.heap[g]? = some (.cells (arr l) 51 (0, 0))

section
variable {w w' : World} {b g n c : Nat} {A : Option Addr} {xs l : List Nat}

theorem Sl.len (h : Sl w b A n c xs) : xs.length = n := h.1
theorem Sl.cap (h : Sl w b A n c xs) : n ≤ c := h.2.1
theorem Sl.big (h : Sl w b A n c xs) : n ≤ 1099511627776 := h.2.2.1
theorem Sl.lim (h : Sl w b A n c xs) : Lim xs := h.2.2.2.1
theorem Sl.at (h : Sl w b A n c xs) (hn : 0 < n) : ∃ o, A = some ⟨b, o, none⟩ ∧ ∀ k, k < n → w.cell? ⟨b, o + k, none⟩ = some (.int .u32 (xs.getD k 0 : Nat)) := h.2.2.2.2 hn
theorem Sl.lt (h : Sl w b A n c xs) (hn : 0 < n) : b < w.heap.size := by
  obtain ⟨o, _, hc⟩ := h.at hn
  exact block_lt_of_cell (hc 0 hn)
theorem Sl.keep (h : Sl w b A n c xs) (hk : 0 < n → w'.heap[b]? = w.heap[b]?) : Sl w' b A n c xs :=
  ⟨h.1, h.2.1, h.2.2.1, h.2.2.2.1, fun hn => by
    obtain ⟨o, e, hc⟩ := h.at hn
    exact ⟨o, e, fun k hk' => (World.cell?_of_block (w := w) (hk hn)).trans (hc k hk')⟩⟩
theorem Sl.below (h : Sl w b A n c xs) (hb : Below w.heap.size w w') : Sl w' b A n c xs := h.keep fun hn => hb.block b (h.lt hn)
theorem Sl.grown (h : Sl w b A n c xs) {row : Option Nat} (hg : w.grownBy w' row) (hne : 0 < n → some b ≠ row) : Sl w' b A n c xs := h.keep fun hn => hg.block b (h.lt hn) (hne hn)
theorem Sl.drew (h : Sl w b A n c xs) : Sl w.drew b A n c xs := h
theorem Sl.drewN (h : Sl w b A n c xs) (k : Nat) : Sl (w.drewN k) b A n c xs := h
theorem Sl.nil : Sl w b none 0 0 [] := ⟨rfl, Nat.le_refl _, by decide, Lim.nil, fun h => absurd h (by decide)⟩
theorem Sl.none (hc : n ≤ c) (hn : n = 0) : Sl w b A n c [] := by subst hn; exact ⟨rfl, hc, by decide, Lim.nil, fun h => absurd h (by decide)⟩
/-- The first ones of a slice. -/
theorem Sl.take (h : Sl w b A n c xs) {k : Nat} (hk : k ≤ n) : Sl w b A k c (xs.take k) :=
  ⟨by rw [List.length_take, h.len, Nat.min_eq_left hk], Nat.le_trans hk h.cap, Nat.le_trans hk h.big, h.lim.take k, fun hn => by
    obtain ⟨o, e, hc⟩ := h.at (by omega)
    refine ⟨o, e, fun j hj => ?_⟩
    rw [hc j (by omega), getD_take hj]⟩

theorem Own.lt (h : Own w g l) : g < w.heap.size := by
  rcases Nat.lt_or_ge g w.heap.size with hlt | hge
  · exact hlt
  · unfold Own at h; rw [Array.getElem?_eq_none hge] at h; cases h
theorem Own.keep (h : Own w g l) (hk : w'.heap[g]? = w.heap[g]?) : Own w' g l := hk.trans h
theorem Own.below {B : Nat} (h : Own w g l) (hb : Below B w w') (hB : g < B) : Own w' g l := h.keep (hb.block g hB)
theorem Own.grown (h : Own w g l) {row : Option Nat} (hg : w.grownBy w' row) (hne : some g ≠ row) : Own w' g l := h.keep (hg.block g h.lt hne)
theorem Own.cell (h : Own w g l) {i : Nat} (hi : i < l.length) : w.cell? ⟨g, i, none⟩ = some (.int .u32 (l.getD i 0 : Nat)) := by
  rw [cell_of_row w g i _ _ (0, 0) h]
  simp [arr, u32, hi]
theorem Own.frozen (h : Own w g l) (i : Nat) : w.frozen? ⟨g, i, none⟩ = false := by
  unfold Own at h
  simp [World.frozen?, h]
theorem Own.set (h : Own w g l) (i : Nat) (x : Nat) : Own (w.setCell ⟨g, i, none⟩ (.int .u32 (x : Int))) g (l.set i x) := by
  unfold Own at h ⊢
  simp [World.setCell, Array.getElem?_modify, h, List.map_set, u32, arr]
theorem Own.far (h : Own w g l) {p : Addr} (hp : g ≠ p.block) (u : Value) : Own (w.setCell p u) g l := (Below.heap_setCell w p u g hp).trans h
theorem Own.alloc (h : Own w g l) (o : Obj) : Own (w.alloc o) g l := (Below.heap_alloc w o g h.lt).trans h
theorem Own.new (w : World) (l : List Nat) : Own (w.alloc (.cells (arr l) 51)) w.heap.size l := heap_alloc_new w _
/-- A piece of a block of the call's own, as a slice. -/
theorem Own.sl (h : Own w g l) (hl : Lim l) {o n c : Nat} (hn : o + n ≤ l.length) (hc : n ≤ c) (hb : l.length ≤ 1099511627776) : Sl w g (some ⟨g, o, none⟩) n c ((l.drop o).take n) :=
  ⟨by simp; omega, hc, by omega, (hl.drop o).take n, fun _ => ⟨o, rfl, fun k hk => by rw [h.cell (by omega), getD_take hk, getD_drop]⟩⟩
theorem Own.all (h : Own w g l) (hl : Lim l) (hb : l.length ≤ 1099511627776) {c : Nat} (hc : l.length ≤ c) : Sl w g (some ⟨g, 0, none⟩) l.length c l := by
  have := h.sl hl (o := 0) (n := l.length) (c := c) (by omega) hc hb
  simpa using this

theorem made_eq (n : Nat) : madeCells (Value.int .u32 0).cells n = arr (List.replicate n 0) := by
  apply Array.ext
  · simp [madeCells, arr]
  · intro i h1 h2
    simp [madeCells, arr, u32, Value.cells, Nat.mod_one]

theorem below_drewN {B : Nat} {a w : World} (h : Below B a w) (n : Nat) : Below B a (w.drewN n) := ⟨h.os, h.tape, h.output, h.size, h.block⟩
theorem grown_refl (w : World) (row : Option Nat) : w.grownBy w row := ⟨rfl, rfl, rfl, Nat.le_refl _, fun _ _ _ => rfl⟩
theorem grown_trans {a b c : World} {row : Option Nat} (h : a.grownBy b row) (k : b.grownBy c row) : a.grownBy c row :=
  ⟨k.os.trans h.os, k.tape.trans h.tape, k.output.trans h.output, Nat.le_trans h.size k.size, fun i hi hn => (k.block i (Nat.lt_of_lt_of_le hi h.size) hn).trans (h.block i hi hn)⟩
theorem grown_drew {a w : World} {row : Option Nat} (h : a.grownBy w row) : a.grownBy w.drew row := ⟨h.os, h.tape, h.output, h.size, h.block⟩
theorem grown_drewN {a w : World} {row : Option Nat} (h : a.grownBy w row) (n : Nat) : a.grownBy (w.drewN n) row := ⟨h.os, h.tape, h.output, h.size, h.block⟩
theorem grown_set {a w : World} {g i : Nat} (h : a.grownBy w (some g)) (u : Value) : a.grownBy (w.setCell ⟨g, i, none⟩ u) (some g) :=
  ⟨h.os, h.tape, h.output, by simpa [World.setCell] using h.size, fun k hk hne => (Below.heap_setCell w _ u k (by rintro rfl; exact hne rfl)).trans (h.block k hk hne)⟩
theorem grown_below {a w : World} (h : Below a.heap.size a w) (row : Option Nat) : a.grownBy w row := ⟨h.os, h.tape, h.output, h.size, fun i hi _ => h.block i hi⟩
theorem below_grown {B g : Nat} {a w : World} (h : a.grownBy w (some g)) (hg : B ≤ g) (hB : B ≤ a.heap.size) : Below B a w := ⟨h.os, h.tape, h.output, h.size, fun i hi => h.block i (by omega) (by simp; omega)⟩

theorem setRow_grown (w : World) (g : Nat) (cs : Array Value) : w.grownBy (w.setRow g cs) (some g) :=
  ⟨rfl, rfl, rfl, by simp [World.setRow], fun k _ hne => setRow_other w g k cs (fun e => hne (by rw [e]))⟩

/-- copy(d, s): s, which reads as xs, into the head of a block of the call's own, that has room for it. -/
theorem wpList_copy32 {P : Program} {w : World} {ops : Array Oper} {rest : List Oper} {o : Oper} {a : Act} {Q : Exit → Act → World → Prop} (hgd : o.guard = none) (d s : Operand) (t : TypeId)
    (ho : o.op = .call { callee := .builtin .copy, args := #[d, s], argTypes := #[t, t] }) (elem : TypeId) (hu : P.underlying t = some (.slice elem)) (hsz : (P.info? elem).map (·.size) = some 1)
    (g n c b : Nat) (A : Option Addr) (m c' : Nat) (zs xs : List Nat) (hd : a.eval d = .slice (some ⟨g, 0, none⟩) n c) (hs : a.eval s = .slice A m c')
    (hg : Own w g zs) (hx : Sl w b A m c' xs) (hz : zs.length = n) (hm : m ≤ n)
    (h : ∀ w', Own w' g (xs ++ zs.drop m) → w.grownBy w' (some g) → wpList P ops Q rest (a.put o.dst (goInt m)) w') : wpList P ops Q (o :: rest) a w := by
  have hl := hx.len
  by_cases h0 : m = 0
  · obtain rfl : xs = [] := List.eq_nil_of_length_eq_zero (by omega)
    refine wpList_copy_nothing hgd d s t t ho elem hu hsz _ _ n c m c' hd hs (by subst h0; simp) ?_
    have := h w (by subst h0; simpa using hg) (grown_refl _ _)
    subst h0
    exact this
  · obtain ⟨off, rfl, hc⟩ := hx.at (by omega)
    have hlen : (xs.map u32).length = m := by simpa using hl
    refine wpList_copy_own hgd d s t t ho elem hu hsz g 0 n c ⟨b, off, none⟩ m c' hd hs (arr zs) _ hg (xs.map u32) (by rw [hlen]; exact (Nat.min_eq_left hm).symm) ?_ ?_ ?_ ?_
    · intro j v hj
      have hj' : j < m := by
        have := (List.getElem?_eq_some_iff.1 hj).1
        omega
      rw [Addr.add_mid, hc j hj']
      rw [List.getElem?_map] at hj
      rw [List.getD_eq_getElem?_getD]
      rcases hq : xs[j]? with _ | y
      · rw [hq] at hj; simp at hj
      · rw [hq] at hj
        simp at hj ⊢
        exact hj
    · simp [arr]; omega
    · intro v hv
      obtain ⟨y, _, rfl⟩ := List.mem_map.1 hv
      rfl
    · rw [hlen]
      refine h _ ?_ (setRow_grown _ _ _)
      have := setRow_heap w g (arr zs) ((arr zs).toList.take 0 ++ (xs.map u32 ++ (arr zs).toList.drop (0 + m))).toArray _ _ hg
      unfold Own
      rw [this]
      simp [arr]

/-- A quiet call behind draws. -/
theorem quiet_add_left {P : Program} {f : FuncId} {args : Array Value} {w : World} {a n : Nat} {v : Value}
    (h : Calls P f args (w.drewN (a + n)) fun e w' => e = .returned v ∧ w.drewN (a + n) = w') :
    Calls P f args (w.drewN (a + n)) fun e w'' => e = .returned v ∧ ∃ m, w'' = w.drewN (a + m) :=
  h.mono fun _ _ ⟨he, hm⟩ => ⟨he, n, hm.symm⟩
theorem quiet_left {P : Program} {f : FuncId} {args : Array Value} {w : World} {n : Nat} {v : Value}
    (h : Calls P f args (w.drewN n) fun e w' => e = .returned v ∧ w.drewN n = w') : Calls P f args (w.drewN n) fun e w'' => e = .returned v ∧ ∃ m, w'' = w.drewN m :=
  h.mono fun _ _ ⟨he, hm⟩ => ⟨he, n, hm.symm⟩

end
end Go.Proofs.YteoeoppkefcmdaaDoor

/-
  What nat.cut and nat.Trim do, for every slice of limbs.
-/
namespace Go.Proofs.YteoeoppkefcmdaaDoor
open Go.RowKit
set_option linter.unusedVariables false

set_option maxHeartbeats 400000 in
theorem cut_any (w : World) (b : Nat) (A : Option Addr) (n c : Nat) (xs : List Nat) (h : Sl w b A n c xs) :
    Calls Tryd.prog 76 #[.slice A n c] w fun e w' => e = .returned (.slice A (limbs (val xs)).length c) ∧ w = w' := by
  have hc := h.cap
  have hb := h.big
  go_enter Tryd.func76, Tryd.ntmps76
  go_wp2
  go_loop [3] (fun i => ∃ k : Nat, k ≤ n ∧ i = .int .i64 k ∧ val (xs.drop k) = 0) (fun i => (intOf i).toNat)
  case atStart => exact ⟨n, Nat.le_refl _, rfl, by rw [List.drop_of_length_le (by rw [h.len]; omega)]; rfl⟩
  case round =>
    obtain ⟨k, hk, rfl, hz⟩ := hrel
    have HZ := Lib.hid hz
    clear hz
    by_cases hk0 : 0 < k
    · obtain ⟨o, rfl, hcell⟩ := h.at (by omega)
      have hck := hcell (k - 1) (by omega)
      have hi : ((k : Int) - 1).toNat = k - 1 := by omega
      clear hcell
      by_cases hx : xs.getD (k - 1) 0 = 0
      · rw [hx] at hck
        have HX := Lib.hid hx
        clear hx
        go_wp2
        go_round
        case rel =>
          refine ⟨k - 1, by omega, by go_num, ?_⟩
          have hl := h.len
          rw [val_drop (by omega), show k - 1 + 1 = k by omega, HZ.out, HX.out]
        case measure => simp [intOf]; omega
      · have hx' : ((xs.getD (k - 1) 0 : Nat) : Int) ≠ 0 := by omega
        have hl := h.len
        have HT : Hid (k = (limbs (val xs)).length) := by
          have := take_eq_limbs h.lim (by omega) HZ.out (fun _ => hx)
          show k = _
          rw [← this, List.length_take]; omega
        clear hx hl
        revert hck hx'
        generalize xs.getD (k - 1) 0 = x
        intro hck hx'
        go_wp2
        go_ret
        exact ⟨by rw [← HT.out]; rfl, rfl⟩
    · have hk0' : k = 0 := by omega
      subst hk0'
      go_wp2
      go_ret
      have := take_eq_limbs h.lim (by omega) HZ.out (fun hh => absurd hh (by omega))
      exact ⟨by rw [← this]; simp, rfl⟩

theorem info32 : (Tryd.prog.info? 51).map (fun i => (i.zero, i.size, i.bytes)) = some (some (.int .u32 0), 1, 4) := by kernel_rfl
theorem size32 : (Tryd.prog.info? 51).map (·.size) = some 1 := by kernel_rfl

/-- make([]uint32, n). -/
theorem run_make32 (n : Nat) (hn : n ≤ 1099511627776) (w : World) :
    (Instr.makeSlice 22 (.int .i64 (n : Int)) (.int .i64 (n : Int))).run Tryd.prog w = .ok (.slice (some ⟨w.heap.size, 0, none⟩) n n) (w.alloc (.cells (arr (List.replicate n 0)) 51)) := by
  obtain ⟨i, hi, hz, hs, hby⟩ := info_parts info32
  have hr := run_make (P := Tryd.prog) w 22 51 i _ Tryd.underlying22 hi hz .i64 .i64 n n (by omega) (by omega) (by rw [hby]; omega) (by omega)
  rw [hr, hs, Nat.mul_one, Int.toNat_natCast, made_eq]

theorem run_make32' (n : Nat) (z : Int) (hz : z = n) (hn : n ≤ 1099511627776) (w : World) :
    (Instr.makeSlice 22 (.int .i64 z) (.int .i64 z)).run Tryd.prog w = .ok (.slice (some ⟨w.heap.size, 0, none⟩) n n) (w.alloc (.cells (arr (List.replicate n 0)) 51)) := by
  subst hz
  exact run_make32 n hn w

theorem lit1 (W : World) (x : Nat) (hx : x < 4294967296) : Sl (W.alloc (.cells #[.int .u32 (x : Int)] 51)) W.heap.size (some ⟨W.heap.size, 0, none⟩) 1 1 [x] := (Own.new W [x]).all (Lim.cons hx Lim.nil) (by simp) (Nat.le_refl _)
theorem lit2 (W : World) (x y : Nat) (hx : x < 4294967296) (hy : y < 4294967296) : Sl (W.alloc (.cells #[.int .u32 (x : Int), .int .u32 (y : Int)] 51)) W.heap.size (some ⟨W.heap.size, 0, none⟩) 2 2 [x, y] :=
  (Own.new W [x, y]).all (Lim.cons hx (Lim.cons hy Lim.nil)) (by simp) (Nat.le_refl _)
theorem alloc_below (W : World) (o : Obj) : Below W.heap.size W (W.alloc o) := (Below.refl _ _).alloc (Nat.le_refl _) _

theorem one_limb (w : World) : Sl (w.alloc (.cells #[.int .u32 1] 51)) w.heap.size (some ⟨w.heap.size, 0, none⟩) 1 1 [1] := (Own.new w [1]).all (Lim.cons (by decide) Lim.nil) (by simp) (Nat.le_refl _)

/-- What a call answers, if it answers a list of limbs in memory of its own. -/
def Made (w w' : World) (l : List Nat) (g : Nat) (A : Option Addr) (c : Nat) : Prop :=
  Sl w' g A l.length c l ∧ (0 < l.length → w.heap.size ≤ g ∧ A = some ⟨g, 0, none⟩ ∧ Own w' g l)
def Ret1 (w : World) (l : List Nat) (e : Ending) (w' : World) : Prop :=
  ∃ g A c, e = .returned (.slice A l.length c) ∧ Made w w' l g A c ∧ Below w.heap.size w w'

set_option maxHeartbeats 400000 in
theorem trim_any (w : World) (b : Nat) (A : Option Addr) (n c : Nat) (xs : List Nat) (h : Sl w b A n c xs) :
    Calls Tryd.prog 67 #[.slice A n c] w (Ret1 w (limbs (val xs))) := by
  have hle := val_limbs_le h.lim
  have hlen := h.len
  have hsl := h.take (k := (limbs (val xs)).length) (by omega)
  rw [limbs_prefix h.lim] at hsl
  have HC := Lib.hid (cut_any w b A n c xs h)
  have hbig := hsl.big
  have hcap := hsl.cap
  clear hle hlen h
  have hlim := lim_limbs (val xs)
  revert HC hsl hbig hcap hlim
  generalize limbs (val xs) = l
  intro hsl HC hbig hcap hlim
  by_cases h0 : l.length = 0
  · obtain rfl : l = [] := List.eq_nil_of_length_eq_zero h0
    go_enter Tryd.func67, Tryd.ntmps67
    go_wp2_with (go_at_call 76; refine HC.out.mono ?_; rintro e w' ⟨rfl, rfl⟩)
    go_ret
    exact ⟨0, none, 0, rfl, ⟨Sl.nil, fun h => absurd h (by decide)⟩, Below.refl _ _⟩
  · have h0' : ((l.length : Int) == 0) = false := by simpa using h0
    have hmk := run_make32 l.length hbig
    go_enter Tryd.func67, Tryd.ntmps67
    go_wp2_with (first
      | (go_at_call 76; refine HC.out.mono ?_; rintro e w' ⟨rfl, rfl⟩)
      | (with_reducible refine wpList_copy32 rfl (.tmp 12) (.tmp 13) 22 rfl 51 Tryd.underlying22 size32 w.heap.size l.length l.length b A l.length c (List.replicate l.length 0) l rfl rfl (Own.new w _) (hsl.below ((Below.refl _ _).alloc (Nat.le_refl _) _)) (by simp) (Nat.le_refl _) ?_; intro w1 ho1 hg1))
    go_ret
    have ho2 : Own w1 w.heap.size l := by simpa using ho1
    exact ⟨w.heap.size, some ⟨w.heap.size, 0, none⟩, l.length, rfl, ⟨ho2.all hlim hbig (Nat.le_refl _), fun _ => ⟨Nat.le_refl _, rfl, ho2⟩⟩, ((Below.refl _ _).alloc (Nat.le_refl _) _).trans (below_grown hg1 (Nat.le_refl _) (by simp))⟩
end Go.Proofs.YteoeoppkefcmdaaDoor

/-
  What cmp.Compare and the functions of math/bits that package nat calls do.
-/
namespace Go.Proofs.YteoeoppkefcmdaaDoor
open Go.RowKit
set_option linter.unusedVariables false

/-- -1, 0 or 1. -/
def cmpI (x y : Int) : Int := if x < y then -1 else if y < x then 1 else 0

theorem cmpI_lt {x y : Int} (h : x < y) : cmpI x y = -1 := by unfold cmpI; rw [if_pos h]
theorem cmpI_gt {x y : Int} (h : y < x) : cmpI x y = 1 := by unfold cmpI; rw [if_neg (by omega), if_pos h]
theorem cmpI_eq {x y : Int} (h : x = y) : cmpI x y = 0 := by unfold cmpI; rw [if_neg (by omega), if_neg (by omega)]
theorem ret_int {k : IntKind} {a b : Int} (h : a = b) : Ending.returned (.int k a) = .returned (.int k b) := by rw [h]

theorem compareInt_any (x y : Int) (w : World) : Calls Tryd.prog 61 #[.int .i64 x, .int .i64 y] w fun e w' => e = .returned (.int .i64 (cmpI x y)) ∧ w = w' := by
  go_enter Tryd.func61, Tryd.ntmps61
  go_wp2
  all_goals go_ret
  · exact ⟨ret_int (cmpI_lt (by assumption)).symm, rfl⟩
  · exact ⟨ret_int (cmpI_gt (by assumption)).symm, rfl⟩
  · exact ⟨ret_int (cmpI_eq (by omega)).symm, rfl⟩

theorem compareU_any (x y : Int) (w : World) : Calls Tryd.prog 91 #[.int .u32 x, .int .u32 y] w fun e w' => e = .returned (.int .i64 (cmpI x y)) ∧ w = w' := by
  go_enter Tryd.func91, Tryd.ntmps91
  go_wp2
  all_goals go_ret
  · exact ⟨ret_int (cmpI_lt (by assumption)).symm, rfl⟩
  · exact ⟨ret_int (cmpI_gt (by assumption)).symm, rfl⟩
  · exact ⟨ret_int (cmpI_eq (by omega)).symm, rfl⟩

theorem ret2_u32 {a b c d : Int} (h : a = c) (k : b = d) : Ending.returned (.tuple #[.int .u32 a, .int .u32 b]) = .returned (.tuple #[.int .u32 c, .int .u32 d]) := by rw [h, k]

set_option maxHeartbeats 400000 in
theorem add32_any (x y c : Nat) (hx : x < 4294967296) (hy : y < 4294967296) (hc : c ≤ 1) (w : World) :
    Calls Tryd.prog 90 #[.int .u32 (x : Int), .int .u32 (y : Int), .int .u32 (c : Int)] w fun e w' =>
      e = .returned (.tuple #[.int .u32 (((x + y + c) % 4294967296 : Nat) : Int), .int .u32 (((x + y + c) / 4294967296 : Nat) : Int)]) ∧ w = w' := by
  go_enter Tryd.func90, Tryd.ntmps90
  go_wp2
  go_ret2
  exact ⟨ret2_u32 (by omega) (by omega), rfl⟩

theorem add32_zero (x c : Nat) (hx : x < 4294967296) (hc : c ≤ 1) (w : World) :
    Calls Tryd.prog 90 #[.int .u32 (x : Int), .int .u32 0, .int .u32 (c : Int)] w fun e w' =>
      e = .returned (.tuple #[.int .u32 (((x + 0 + c) % 4294967296 : Nat) : Int), .int .u32 (((x + 0 + c) / 4294967296 : Nat) : Int)]) ∧ w = w' := add32_any x 0 c hx (by omega) hc w

/-- The borrow. -/
def bor (x y c : Nat) : Nat := if x < y + c then 1 else 0
theorem bor_le (x y c : Nat) : bor x y c ≤ 1 := by unfold bor; split <;> omega

theorem bit_cases (X Y D : Nat) (hX : X ≤ 1) (hY : Y ≤ 1) (hD : D ≤ 1) : (((1 ^^^ X) &&& Y) ||| ((1 ^^^ (X ^^^ Y)) &&& D)) = if X < Y then 1 else if Y < X then 0 else D := by
  rcases (by omega : X = 0 ∨ X = 1) with rfl | rfl <;> rcases (by omega : Y = 0 ∨ Y = 1) with rfl | rfl <;> rcases (by omega : D = 0 ∨ D = 1) with rfl | rfl <;> decide

theorem sub_borrow (x y c d : Nat) (hx : x < 4294967296) (hy : y < 4294967296) (hc : c ≤ 1) (hd : d = (x + 4294967296 - y - c) % 4294967296) :
    (((4294967295 ^^^ x) &&& y) ||| ((4294967295 ^^^ (x ^^^ y)) &&& d)) / 2147483648 = bor x y c := by
  have e : ∀ n : Nat, n / 2147483648 = n >>> 31 := fun n => by rw [Nat.shiftRight_eq_div_pow]
  rw [e, Nat.shiftRight_or_distrib, Nat.shiftRight_and_distrib, Nat.shiftRight_and_distrib, Nat.shiftRight_xor_distrib, Nat.shiftRight_xor_distrib, Nat.shiftRight_xor_distrib]
  rw [← e x, ← e y, ← e d, show (4294967295 >>> 31 : Nat) = 1 by decide]
  rw [bit_cases _ _ _ (by omega) (by omega) (by omega)]
  unfold bor
  split <;> split <;> (try split) <;> omega

theorem max_u32 : IntKind.u32.max = ((4294967295 : Nat) : Int) := by decide

theorem sub_bits (x y c : Nat) (hx : x < 4294967296) (hy : y < 4294967296) (hc : c ≤ 1) :
    bits BinOp.or IntKind.u32 (bits BinOp.and IntKind.u32 (bits BinOp.xor IntKind.u32 IntKind.u32.max ↑x) ↑y)
        (bits BinOp.and IntKind.u32 (bits BinOp.xor IntKind.u32 IntKind.u32.max (bits BinOp.xor IntKind.u32 ↑x ↑y))
          (((x : Int) - y - c) % 4294967296)) / 2147483648 = (bor x y c : Int) := by
  have hd : ((x : Int) - y - c) % 4294967296 = (((x + 4294967296 - y - c) % 4294967296 : Nat) : Int) := by omega
  have b1 : ∀ a : Nat, a < 4294967296 → 4294967295 ^^^ a < 4294967296 := fun a ha => Nat.xor_lt_two_pow (n := 32) (by decide) ha
  have b2 : x ^^^ y < 4294967296 := Nat.xor_lt_two_pow (n := 32) hx hy
  have b3 : (x + 4294967296 - y - c) % 4294967296 < 4294967296 := by omega
  rw [hd, max_u32, u32_xor_nat _ _ (by decide) hx, u32_and_nat _ _ (b1 x hx) hy, u32_xor_nat _ _ hx hy, u32_xor_nat _ _ (by decide) b2, u32_and_nat _ _ (b1 _ b2) b3,
    u32_or_nat _ _ (Nat.and_lt_two_pow (n := 32) _ hy) (Nat.and_lt_two_pow (n := 32) _ b3)]
  rw [← sub_borrow x y c _ hx hy hc rfl]
  omega

set_option maxHeartbeats 400000 in
theorem sub32_any (x y c : Nat) (hx : x < 4294967296) (hy : y < 4294967296) (hc : c ≤ 1) (w : World) :
    Calls Tryd.prog 96 #[.int .u32 (x : Int), .int .u32 (y : Int), .int .u32 (c : Int)] w fun e w' =>
      e = .returned (.tuple #[.int .u32 (((x + 4294967296 - y - c) % 4294967296 : Nat) : Int), .int .u32 (bor x y c : Int)]) ∧ w = w' := by
  go_enter Tryd.func96, Tryd.ntmps96
  go_wp2
  go_ret2
  exact ⟨ret2_u32 (by omega) (sub_bits x y c hx hy hc), rfl⟩

theorem sub32_zero (x c : Nat) (hx : x < 4294967296) (hc : c ≤ 1) (w : World) :
    Calls Tryd.prog 96 #[.int .u32 (x : Int), .int .u32 0, .int .u32 (c : Int)] w fun e w' =>
      e = .returned (.tuple #[.int .u32 (((x + 4294967296 - 0 - c) % 4294967296 : Nat) : Int), .int .u32 (bor x 0 c : Int)]) ∧ w = w' := sub32_any x 0 c hx (by omega) hc w

theorem or_join (x y : Nat) (hx : x < 4294967296) (hy : y < 4294967296) : bits BinOp.or IntKind.u64 ((x : Int) * 4294967296) (y : Int) = (x : Int) * 4294967296 + y := by
  have := u64_or_nat (x * 4294967296) y (by omega) (by omega)
  rw [nat_join 32 _ _ (by omega) hy] at this
  simpa using this

/-- How many bits a number needs. -/
def blen (n : Nat) : Nat := if n = 0 then 0 else Nat.log2 n + 1

theorem blen_zero : blen 0 = 0 := rfl
theorem blen_lt (n : Nat) : n < 2 ^ blen n := by
  unfold blen
  split
  · subst_vars; decide
  · exact Nat.lt_log2_self
theorem blen_le {n : Nat} (h : n ≠ 0) : 2 ^ (blen n - 1) ≤ n := by
  unfold blen
  rw [if_neg h]
  exact Nat.log2_self_le h
theorem blen_uniq {n k : Nat} (h0 : n ≠ 0) (h1 : 2 ^ k ≤ n) (h2 : n < 2 ^ (k + 1)) : blen n = k + 1 := by
  unfold blen
  rw [if_neg h0, (Nat.log2_eq_iff h0).2 ⟨h1, h2⟩]
theorem blen_half {n : Nat} (h : n ≠ 0) : blen n = 1 + blen (n / 2) := by
  by_cases h1 : n = 1
  · subst h1; decide
  · have h2 : n / 2 ≠ 0 := by omega
    unfold blen
    rw [if_neg h, if_neg h2, Nat.log2_def, if_pos (by omega)]
    omega

theorem bitLenAux_eq : ∀ (f n : Nat), n < 2 ^ f → Lib.bitLenAux f n = blen n
  | 0, n, h => by
    have : n = 0 := by simpa using h
    subst this; rfl
  | f + 1, n, h => by
    unfold Lib.bitLenAux
    by_cases h0 : n = 0
    · subst h0; rfl
    · rw [if_neg h0, bitLenAux_eq f (n / 2) (by rw [Nat.pow_succ] at h; omega), blen_half h0]

theorem bitLen_eq (n : Nat) (h : n < 4294967296) : Lib.bitLen n = blen n := bitLenAux_eq 64 n (by omega)

theorem blen_shift (n k : Nat) (h : 2 ^ k ≤ n) : blen n = k + blen (n / 2 ^ k) := by
  induction k with
  | zero => simp
  | succ k ih =>
    have h1 : 2 ^ k ≤ n := Nat.le_trans (Nat.pow_le_pow_right (by decide) (Nat.le_succ k)) h
    have h2 : n / 2 ^ k ≠ 0 := by
      have := (Nat.le_div_iff_mul_le (Nat.two_pow_pos k)).2 (show 1 * 2 ^ k ≤ n by omega)
      omega
    rw [ih h1, blen_half h2, Nat.div_div_eq_div_mul, Nat.pow_succ]
    omega
theorem blen_mono_le {n k : Nat} (h : n < 2 ^ k) : blen n ≤ k := by
  by_cases h0 : n = 0
  · subst h0; rw [blen_zero]; omega
  · rcases Nat.lt_or_ge k (blen n) with hlt | hge
    · have := blen_le h0
      have := Nat.pow_le_pow_right (n := 2) (by decide) (show k ≤ blen n - 1 by omega)
      omega
    · exact hge

theorem index_len8 (w : World) (k : Nat) (h : k < 256) :
    (Instr.index 9 (.string Lib.len8tab) (.int .u8 (k : Int))).run Tryd.prog w = .ok (.int .u8 (blen k : Int)) w := by
  rw [Lib.run_index_len8tab (P := Tryd.prog) w 9 .u8 (k : Int) Tryd.underlying9 (by omega) (by omega)]
  have := Lib.len8_eq ⟨k, h⟩
  simp only at this
  rw [this, bitLen_eq k (by omega)]

set_option maxRecDepth 100000 in
set_option maxHeartbeats 1000000 in
theorem len32_a (z : Int) (q : Nat) (w : World) (h0 : 0 ≤ z) (hz : z ≤ 4294967295) (h1 : 65536 ≤ z) (h2 : 256 ≤ z / 65536) (hq : q ≤ 8)
    (hi : ∀ W, (Instr.index 9 (.string Lib.len8tab) (.int .u8 (z / 65536 / 256))).run Tryd.prog W = .ok (.int .u8 (q : Int)) W) :
    Calls Tryd.prog 82 #[.int .u32 z] w fun e w' => e = .returned (.int .i64 (24 + q : Int)) ∧ w = w' := by
  go_enter Tryd.func82, Tryd.ntmps82
  go_wp2
  go_ret
  exact ⟨rfl, rfl⟩

set_option maxRecDepth 100000 in
set_option maxHeartbeats 1000000 in
theorem len32_b (z : Int) (q : Nat) (w : World) (h0 : 0 ≤ z) (hz : z ≤ 4294967295) (h1 : 65536 ≤ z) (h2 : z / 65536 < 256) (hq : q ≤ 8)
    (hi : ∀ W, (Instr.index 9 (.string Lib.len8tab) (.int .u8 (z / 65536))).run Tryd.prog W = .ok (.int .u8 (q : Int)) W) :
    Calls Tryd.prog 82 #[.int .u32 z] w fun e w' => e = .returned (.int .i64 (16 + q : Int)) ∧ w = w' := by
  go_enter Tryd.func82, Tryd.ntmps82
  go_wp2
  go_ret
  exact ⟨rfl, rfl⟩

set_option maxRecDepth 100000 in
set_option maxHeartbeats 1000000 in
theorem len32_c (z : Int) (q : Nat) (w : World) (h0 : 0 ≤ z) (hz : z ≤ 4294967295) (h1 : z < 65536) (h2 : 256 ≤ z) (hq : q ≤ 8)
    (hi : ∀ W, (Instr.index 9 (.string Lib.len8tab) (.int .u8 (z / 256))).run Tryd.prog W = .ok (.int .u8 (q : Int)) W) :
    Calls Tryd.prog 82 #[.int .u32 z] w fun e w' => e = .returned (.int .i64 (8 + q : Int)) ∧ w = w' := by
  go_enter Tryd.func82, Tryd.ntmps82
  go_wp2
  go_ret
  exact ⟨rfl, rfl⟩

set_option maxRecDepth 100000 in
set_option maxHeartbeats 1000000 in
theorem len32_d (z : Int) (q : Nat) (w : World) (h0 : 0 ≤ z) (hz : z ≤ 4294967295) (h1 : z < 65536) (h2 : z < 256) (hq : q ≤ 8)
    (hi : ∀ W, (Instr.index 9 (.string Lib.len8tab) (.int .u8 (z))).run Tryd.prog W = .ok (.int .u8 (q : Int)) W) :
    Calls Tryd.prog 82 #[.int .u32 z] w fun e w' => e = .returned (.int .i64 (q : Int)) ∧ w = w' := by
  go_enter Tryd.func82, Tryd.ntmps82
  go_wp2
  go_ret
  exact ⟨rfl, rfl⟩

theorem len32_any (x : Nat) (hx : x < 4294967296) (w : World) :
    Calls Tryd.prog 82 #[.int .u32 (x : Int)] w fun e w' => e = .returned (.int .i64 (blen x : Int)) ∧ w = w' := by
  by_cases h1 : 65536 ≤ x
  · have s1 := blen_shift x 16 (by omega)
    rw [show 2 ^ 16 = 65536 by decide] at s1
    by_cases h2 : 256 ≤ x / 65536
    · have s2 := blen_shift (x / 65536) 8 (by omega)
      rw [show 2 ^ 8 = 256 by decide] at s2
      have := len32_a (x : Int) (blen (x / 65536 / 256)) w (by omega) (by omega) (by omega) (by omega) (blen_mono_le (by omega)) (fun W => index_len8 W (x / 65536 / 256) (by omega))
      exact this.mono fun e w' h => ⟨h.1.trans (ret_int (by omega)), h.2⟩
    · have := len32_b (x : Int) (blen (x / 65536)) w (by omega) (by omega) (by omega) (by omega) (blen_mono_le (by omega)) (fun W => index_len8 W (x / 65536) (by omega))
      exact this.mono fun e w' h => ⟨h.1.trans (ret_int (by omega)), h.2⟩
  · by_cases h2 : 256 ≤ x
    · have s2 := blen_shift x 8 (by omega)
      rw [show 2 ^ 8 = 256 by decide] at s2
      have := len32_c (x : Int) (blen (x / 256)) w (by omega) (by omega) (by omega) (by omega) (blen_mono_le (by omega)) (fun W => index_len8 W (x / 256) (by omega))
      exact this.mono fun e w' h => ⟨h.1.trans (ret_int (by omega)), h.2⟩
    · exact len32_d (x : Int) (blen x) w (by omega) (by omega) (by omega) (by omega) (blen_mono_le (by omega)) (fun W => index_len8 W x (by omega))

end Go.Proofs.YteoeoppkefcmdaaDoor

/-
  What nat.Cmp and nat.Len do, for all slices of limbs.
-/
namespace Go.Proofs.YteoeoppkefcmdaaDoor
open Go.RowKit
set_option linter.unusedVariables false

theorem cmpI_symm_lt {a b : Nat} (h : a < b) : cmpI (a : Int) (b : Int) = -1 := cmpI_lt (by omega)

set_option maxHeartbeats 1000000 in
theorem cmp_core (w : World) (b1 b2 : Nat) (A1 A2 : Option Addr) (n m c1 c2 : Nat) (xs ys : List Nat) (n' m' : Nat) (h1 : Sl w b1 A1 n' c1 xs) (h2 : Sl w b2 A2 m' c2 ys)
    (HC1 : Hid (Calls Tryd.prog 76 #[.slice A1 n c1] w fun e w' => e = .returned (.slice A1 n' c1) ∧ w = w'))
    (HC2 : Hid (Calls Tryd.prog 76 #[.slice A2 m c2] w fun e w' => e = .returned (.slice A2 m' c2) ∧ w = w'))
    (hne : n' ≠ m' → cmpI (n' : Int) (m' : Int) = cmpI (val xs : Nat) (val ys : Nat)) :
    Calls Tryd.prog 80 #[.slice A1 n c1, .slice A2 m c2] w fun e w' => e = .returned (.int .i64 (cmpI (val xs : Nat) (val ys : Nat))) ∧ ∃ q, w' = w.drewN q := by
  have hb1 := h1.big
  have hb2 := h2.big
  have hl1 := Lib.hid h1.len
  have hl2 := Lib.hid h2.len
  by_cases heq : n' = m'
  · subst heq
    clear hne
    have hne' : ((n' : Int) != (n' : Int)) = false := by simp
    go_enter Tryd.func80, Tryd.ntmps80
    go_wp2_with (first
      | (go_at_call 76; ((with_reducible refine HC1.out.mono ?_); rintro e w' ⟨rfl, rfl⟩))
      | (go_at_call 76; ((with_reducible refine HC2.out.mono ?_); rintro e w' ⟨rfl, rfl⟩)))
    clear HC1 HC2
    go_loopw [23] (fun i wr => ∃ k q : Nat, k ≤ n' ∧ i = .int .i64 k ∧ wr = w.drewN q ∧ val (xs.drop (n' - k)) = val (ys.drop (n' - k))) (fun i _ => n' - (intOf i).toNat)
    case atStart => exact ⟨0, 0, Nat.zero_le _, rfl, rfl, by rw [List.drop_of_length_le (by rw [hl1.out]; omega), List.drop_of_length_le (by rw [hl2.out]; omega)]⟩
    case round =>
      obtain ⟨k, q, hk, rfl, rfl, hz⟩ := hrel
      have HZ := Lib.hid hz
      clear hz
      by_cases hlt : k < n'
      · obtain ⟨o1, rfl, hc1⟩ := h1.at (by omega)
        obtain ⟨o2, rfl, hc2⟩ := h2.at (by omega)
        have g1 := hc1 (n' - 1 - k) (by omega)
        have g2 := hc2 (n' - 1 - k) (by omega)
        clear hc1 hc2
        have HX := Lib.hid (val_limb_cases h1.lim h2.lim hl1.out hl2.out hlt HZ.out)
        revert g1 g2 HX
        generalize xs.getD (n' - 1 - k) 0 = x
        generalize ys.getD (n' - 1 - k) 0 = y
        intro g1 g2 HX
        have i1 : ((n' : Int) - 1 - k).toNat = n' - 1 - k := by omega
        by_cases hxy : x = y
        · subst hxy
          go_wp2
          go_quiet (fail)
          go_wp2
          go_roundw
          case rel => exact ⟨k + 1, _, by omega, by go_num, rfl, by rw [show n' - (k + 1) = n' - 1 - k by omega]; exact HX.out.2.2 (by first | trivial | rfl)⟩
          case measure => simp [intOf]; omega
        · have HR : Hid (cmpI (x : Int) (y : Int) = cmpI (val xs : Nat) (val ys : Nat)) := by
            rcases Nat.lt_or_gt_of_ne hxy with h | h
            · exact (cmpI_lt (by omega)).trans (cmpI_lt (by have := HX.out.1 h; omega)).symm
            · exact (cmpI_gt (by omega)).trans (cmpI_gt (by have := HX.out.2.1 h; omega)).symm
          have hxy' : ((x : Int) != (y : Int)) = true := by simp; omega
          clear hxy HX
          go_wp2
          go_quiet (fail)
          go_wp2
          go_quiet ((go_at_call 91; first | exact quiet_add_left (compareU_any _ _ _) | exact quiet_left (compareU_any _ _ _)))
          go_wp2
          go_ret
          exact ⟨ret_int HR.out, _, by rw [World.drewN_drewN, World.drewN_drewN]⟩
      · go_wp2
        go_ret
        have hkn : k = n' := by omega
        subst hkn
        have e := HZ.out
        rw [Nat.sub_self, List.drop_zero, List.drop_zero] at e
        exact ⟨ret_int (cmpI_eq (by omega)).symm, _, rfl⟩
  · have hne' : ((n' : Int) != (m' : Int)) = true := by simp; omega
    have HN := Lib.hid (hne heq)
    clear hne heq
    go_enter Tryd.func80, Tryd.ntmps80
    go_wp2_with (first
      | (go_at_call 76; ((with_reducible refine HC1.out.mono ?_); rintro e w' ⟨rfl, rfl⟩))
      | (go_at_call 76; ((with_reducible refine HC2.out.mono ?_); rintro e w' ⟨rfl, rfl⟩))
      | (go_at_call 61; ((with_reducible refine (compareInt_any _ _ _).mono ?_); rintro e w' ⟨rfl, rfl⟩)))
    go_ret
    exact ⟨ret_int HN.out, 0, rfl⟩

theorem cmp_any (w : World) (b1 b2 : Nat) (A1 A2 : Option Addr) (n m c1 c2 : Nat) (xs ys : List Nat) (h1 : Sl w b1 A1 n c1 xs) (h2 : Sl w b2 A2 m c2 ys) :
    Calls Tryd.prog 80 #[.slice A1 n c1, .slice A2 m c2] w fun e w' => e = .returned (.int .i64 (cmpI (val xs : Nat) (val ys : Nat))) ∧ ∃ q, w' = w.drewN q := by
  have s1 := h1.take (k := (limbs (val xs)).length) (by have := val_limbs_le h1.lim; have := h1.len; omega)
  have s2 := h2.take (k := (limbs (val ys)).length) (by have := val_limbs_le h2.lim; have := h2.len; omega)
  rw [limbs_prefix h1.lim] at s1
  rw [limbs_prefix h2.lim] at s2
  have := cmp_core w b1 b2 A1 A2 n m c1 c2 _ _ _ _ s1 s2 (cut_any w b1 A1 n c1 xs h1) (cut_any w b2 A2 m c2 ys h2) (fun hne => by
    rw [val_limbs, val_limbs]
    rcases Nat.lt_or_gt_of_ne hne with h | h
    · exact (cmpI_lt (by omega)).trans (cmpI_lt (by have := limbs_length_lt_of_lt h; omega)).symm
    · exact (cmpI_gt (by omega)).trans (cmpI_gt (by have := limbs_length_lt_of_lt h; omega)).symm)
  rw [val_limbs, val_limbs] at this
  exact this

end Go.Proofs.YteoeoppkefcmdaaDoor

/-
  What nat.addTo, nat.addTimes and nat.takeFrom do to limbs of the call's own.
-/
namespace Go.Proofs.YteoeoppkefcmdaaDoor
open Go.RowKit
set_option linter.unusedVariables false

/-- Limbs from place o on of block g have turned to zs, and nothing else of what was there has turned. -/
def Turned (w : World) (g o : Nat) (l zs : List Nat) (w' : World) : Prop := Own w' g (mid l o zs) ∧ w.grownBy w' (some g) ∧ Lim zs

theorem Turned.step {w wr : World} {g o : Nat} {l zs : List Nat} (h : Turned w g o l zs wr) (hk : o + zs.length < l.length) {x : Nat} (hx : x < 4294967296) :
    Turned w g o l (zs ++ [x]) (wr.setCell ⟨g, o + zs.length, none⟩ (.int .u32 (x : Int))) :=
  ⟨by have := h.1.set (o + zs.length) x; rwa [mid_set hk] at this, grown_set h.2.1 _, h.2.2.append (Lim.cons hx Lim.nil)⟩

theorem Turned.cell {w wr : World} {g o : Nat} {l zs : List Nat} (h : Turned w g o l zs wr) (hk : o + zs.length < l.length) : wr.cell? ⟨g, o + zs.length, none⟩ = some (.int .u32 (l.getD (o + zs.length) 0 : Nat)) := by
  rw [h.1.cell (by rw [mid_length (by omega)]; omega), mid_getD hk]

def AddInv (w : World) (g o : Nat) (l ys : List Nat) (k cy : Nat) (wr : World) : Prop :=
  ∃ zs, zs.length = k ∧ Turned w g o l zs wr ∧ cy ≤ 1 ∧ val zs + cy * 4294967296 ^ k = val ((l.drop o).take k) + val (ys.take k)

theorem AddInv.step {w wr : World} {g o : Nat} {l ys : List Nat} {k cy x y : Nat} (h : AddInv w g o l ys k cy wr) (hk : o + k < l.length) (hx : l.getD (o + k) 0 = x) (hy : ys.getD k 0 = y) (hl : Lim l) (hly : Lim ys) :
    AddInv w g o l ys (k + 1) ((x + y + cy) / 4294967296) (wr.setCell ⟨g, o + k, none⟩ (.int .u32 (((x + y + cy) % 4294967296 : Nat) : Int))) := by
  obtain ⟨zs, rfl, ht, hc, hv⟩ := h
  have bx : x < 4294967296 := by rw [← hx]; exact hl.getD _
  have by' : y < 4294967296 := by rw [← hy]; exact hly.getD _
  refine ⟨zs ++ [(x + y + cy) % 4294967296], by simp, ht.step hk (by omega), by omega, ?_⟩
  rw [val_snoc, val_take_more, val_take_more, hy, getD_drop, hx, Nat.pow_succ]
  exact add_step hv

/-- What addTo leaves. -/
def AddPost (w : World) (g o n : Nat) (l ys : List Nat) (e : Ending) (w' : World) : Prop :=
  e = .returned (.tuple #[]) ∧ ∃ zs cy, zs.length = n ∧ Turned w g o l zs w' ∧ cy ≤ 1 ∧ val zs + cy * 4294967296 ^ n = val ((l.drop o).take n) + val ys

theorem AddInv.done {w wr : World} {g o n : Nat} {l ys : List Nat} {cy : Nat} (h : AddInv w g o l ys n cy wr) (hm : ys.length ≤ n) : AddPost w g o n l ys (.returned (.tuple #[])) wr := by
  obtain ⟨zs, hz, ht, hc, hv⟩ := h
  exact ⟨rfl, zs, cy, hz, ht, hc, by rw [hv, val_take_all hm]⟩

theorem mid_more {l zs : List Nat} {o n : Nat} (h : o + n ≤ l.length) (hz : zs.length ≤ n) : mid l o (zs ++ (l.drop (o + zs.length)).take (n - zs.length)) = mid l o zs := by
  unfold mid
  have e : (zs ++ (l.drop (o + zs.length)).take (n - zs.length)).length = n := by simp; omega
  rw [e, List.append_assoc, List.append_assoc, List.append_assoc]
  congr 2
  have : l.drop (o + n) = (l.drop (o + zs.length)).drop (n - zs.length) := by rw [List.drop_drop]; congr 1; omega
  rw [this, List.take_append_drop]

theorem val_seg_split {l : List Nat} {o n k : Nat} (h : o + n ≤ l.length) (hk : k ≤ n) : val ((l.drop o).take n) = val ((l.drop o).take k) + 4294967296 ^ k * val ((l.drop (o + k)).take (n - k)) := by
  have h1 := val_take_drop ((l.drop o).take n) (k := k) (by simp; omega)
  rw [List.take_take, Nat.min_eq_left hk, List.drop_take, List.drop_drop] at h1
  exact h1

theorem AddInv.early {w wr : World} {g o n k : Nat} {l ys : List Nat} (h : AddInv w g o l ys k 0 wr) (hl : Lim l) (hn : o + n ≤ l.length) (hk : k ≤ n) (hm : ys.length ≤ k) : AddPost w g o n l ys (.returned (.tuple #[])) wr := by
  obtain ⟨zs, rfl, ht, hc, hv⟩ := h
  refine ⟨rfl, zs ++ (l.drop (o + zs.length)).take (n - zs.length), 0, by simp; omega, ⟨by rw [mid_more hn hk]; exact ht.1, ht.2.1, ht.2.2.append ((hl.drop _).take _)⟩, by omega, ?_⟩
  rw [val_append, val_seg_split hn hk]
  rw [val_take_all hm] at hv
  omega

set_option maxHeartbeats 1000000 in
theorem addTo_any (w : World) (g o n c b m c2 : Nat) (A : Option Addr) (l ys : List Nat) (hg : Own w g l) (hl : Lim l) (hn : o + n ≤ l.length) (hbl : l.length ≤ 1099511627776) (h2 : Sl w b A m c2 ys) (hne : 0 < m → b ≠ g) (hm : m ≤ n) :
    Calls Tryd.prog 77 #[.slice (some ⟨g, o, none⟩) n c, .slice A m c2] w (AddPost w g o n l ys) := by
  have hl2 := Lib.hid h2.len
  go_enter Tryd.func77, Tryd.ntmps77
  go_wp2
  go_loopw [4, 9] (fun u i wr => ∃ k cy : Nat, k ≤ n ∧ i = .int .i64 k ∧ u = .int .u32 cy ∧ AddInv w g o l ys k cy wr) (fun _ i _ => n - (intOf i).toNat)
  case atStart => exact ⟨0, 0, Nat.zero_le _, rfl, rfl, [], rfl, ⟨by rw [mid_nil]; exact hg, grown_refl _ _, Lim.nil⟩, by omega, by simp [val]⟩
  case round =>
    obtain ⟨k, cy, hk, rfl, rfl, hI⟩ := hrel
    have HI := Lib.hid hI
    clear hI
    by_cases hlt : k < n
    · have HI' := HI
      obtain ⟨zs, hz, ht, hcy, -⟩ := HI'
      have hcell := ht.cell (by omega)
      rw [hz] at hcell
      have hfr : wr.frozen? ⟨g, o + k, none⟩ = false := ht.1.frozen _
      have bx := hl.getD (o + k)
      have HS := Lib.hid (fun y hy => HI.out.step (y := y) (by omega) rfl hy hl h2.lim)
      have hsl := h2.grown ht.2.1 (fun h => by simpa using hne h)
      clear ht hz hg
      obtain ⟨x, hx⟩ : ∃ x, l.getD (o + k) 0 = x := ⟨_, rfl⟩
      rw [hx] at hcell bx HS
      clear hx
      by_cases hkm : k < m
      · obtain ⟨o2, rfl, hc2⟩ := hsl.at (by omega)
        have hcell2 := hc2 k hkm
        have by' := h2.lim.getD k
        have HS' := Lib.hid (HS.out _ rfl)
        clear HS hc2
        revert hcell2 by' HS'
        generalize ys.getD k 0 = y
        intro hcell2 by' HS'
        go_wp2_with (go_at_call 90; ((with_reducible refine (add32_any x y cy bx by' hcy _).mono ?_); rintro e w' ⟨rfl, rfl⟩))
        go_roundw
        case rel => exact ⟨k + 1, _, by omega, by go_num, rfl, HS'.out⟩
        case measure => simp [intOf]; omega
      · have HS' := Lib.hid (HS.out 0 (getD_beyond (by rw [hl2.out]; omega)))
        clear HS
        by_cases hc0 : cy = 0
        · subst hc0
          go_wp2
          refine bodyPost_ret (results_none rfl _ _ _) rfl ?_
          exact HI.out.early hl hn hk (by rw [hl2.out]; omega)
        · have hc0' : ((cy : Int) == 0) = false := by simpa using hc0
          go_wp2_with (go_at_call 90; ((with_reducible refine (add32_zero x cy bx hcy _).mono ?_); rintro e w' ⟨rfl, rfl⟩))
          go_roundw
          case rel => exact ⟨k + 1, _, by omega, by go_num, rfl, HS'.out⟩
          case measure => simp [intOf]; omega
    · go_wp2
      go_end0
      have hkn : k = n := by omega
      subst hkn
      exact HI.out.done (by rw [hl2.out]; omega)
def MulInv (w : World) (g o : Nat) (l ys : List Nat) (f k cy : Nat) (wr : World) : Prop :=
  ∃ zs, zs.length = k ∧ Turned w g o l zs wr ∧ cy < 4294967296 ∧ val zs + cy * 4294967296 ^ k = val ((l.drop o).take k) + f * val (ys.take k)

theorem prod_lt {y f : Nat} (hy : y < 4294967296) (hf : f < 4294967296) : y * f ≤ 4294967295 * 4294967295 := Nat.mul_le_mul (by omega) (by omega)

theorem wrap_u64_nat (s : Nat) (h : s < 18446744073709551616) : IntKind.u64.wrap (s : Int) = s := by
  rw [show IntKind.u64.wrap (s : Int) = (s : Int) % 18446744073709551616 from by simp [IntKind.wrap, IntKind.bits, IntKind.signed]]
  omega

/-- The three sums of a step, none of which wraps. -/
theorem mul_sums {y f x cy : Nat} (hy : y < 4294967296) (hf : f < 4294967296) (hx : x < 4294967296) (hc : cy < 4294967296) :
    ∃ p q s : Nat, Hid (s = y * f + x + cy) ∧ Hid (s / 4294967296 < 4294967296) ∧ IntKind.u64.wrap ((y : Int) * f) = p ∧ IntKind.u64.wrap ((p : Int) + x) = q ∧ IntKind.u64.wrap ((q : Int) + cy) = s := by
  have hp := prod_lt hy hf
  refine ⟨y * f, y * f + x, y * f + x + cy, rfl, ?_, ?_, ?_, ?_⟩
  · show _ < _; omega
  · have := wrap_u64_nat (y * f) (by omega); simpa using this
  · have := wrap_u64_nat (y * f + x) (by omega); simpa using this
  · have := wrap_u64_nat (y * f + x + cy) (by omega); simpa using this

theorem MulInv.step {w wr : World} {g o : Nat} {l ys : List Nat} {f k cy x y s : Nat} (h : MulInv w g o l ys f k cy wr) (hk : o + k < l.length) (hx : l.getD (o + k) 0 = x) (hy : ys.getD k 0 = y)
    (hs : s = y * f + x + cy) (hb : s / 4294967296 < 4294967296) (q : Nat) :
    MulInv w g o l ys f (k + 1) (s / 4294967296) ((wr.drewN q).setCell ⟨g, o + k, none⟩ (.int .u32 ((s % 4294967296 : Nat) : Int))) := by
  obtain ⟨zs, rfl, ht, hc, hv⟩ := h
  have ht' : Turned w g o l zs (wr.drewN q) := ⟨ht.1, grown_drewN ht.2.1 q, ht.2.2⟩
  refine ⟨zs ++ [s % 4294967296], by simp, ht'.step hk (by omega), hb, ?_⟩
  rw [val_snoc, val_take_more, val_take_more, hy, getD_drop, hx, Nat.pow_succ, hs]
  exact mul_step hv

/-- What addTimes leaves. -/
def MulPost (w : World) (g o n : Nat) (l ys : List Nat) (f : Nat) (e : Ending) (w' : World) : Prop :=
  ∃ cy : Nat, e = .returned (.int .u32 (cy : Int)) ∧ ∃ zs, zs.length = n ∧ Turned w g o l zs w' ∧ cy < 4294967296 ∧ val zs + cy * 4294967296 ^ n = val ((l.drop o).take n) + f * val ys

set_option maxHeartbeats 1000000 in
theorem addTimes_any (w : World) (g o n c b c2 f : Nat) (A : Option Addr) (l ys : List Nat) (hg : Own w g l) (hl : Lim l) (hn : o + n ≤ l.length) (hbl : l.length ≤ 1099511627776) (h2 : Sl w b A n c2 ys) (hne : 0 < n → b ≠ g) (hf : f < 4294967296) :
    Calls Tryd.prog 88 #[.slice (some ⟨g, o, none⟩) n c, .slice A n c2, .int .u32 (f : Int)] w (MulPost w g o n l ys f) := by
  have hl2 := Lib.hid h2.len
  go_enter Tryd.func88, Tryd.ntmps88
  go_wp2
  go_loopw [7, 12] (fun u i wr => ∃ k cy : Nat, k ≤ n ∧ i = .int .i64 k ∧ u = .int .u64 cy ∧ MulInv w g o l ys f k cy wr) (fun _ i _ => n - (intOf i).toNat)
  case atStart => exact ⟨0, 0, Nat.zero_le _, rfl, rfl, [], rfl, ⟨by rw [mid_nil]; exact hg, grown_refl _ _, Lim.nil⟩, by omega, by simp [val]⟩
  case round =>
    obtain ⟨k, cy, hk, rfl, rfl, hI⟩ := hrel
    have HI := Lib.hid hI
    clear hI
    by_cases hlt : k < n
    · have HI' := HI
      obtain ⟨zs, hz, ht, hcy, -⟩ := HI'
      have hcell := ht.cell (by omega)
      rw [hz] at hcell
      have hfr : wr.frozen? ⟨g, o + k, none⟩ = false := ht.1.frozen _
      have bx := hl.getD (o + k)
      have hsl := h2.grown ht.2.1 (fun h => by simpa using hne h)
      clear ht hz hg
      obtain ⟨x, hx⟩ : ∃ x, l.getD (o + k) 0 = x := ⟨_, rfl⟩
      rw [hx] at hcell bx
      have HX := Lib.hid hx
      clear hx
      obtain ⟨o2, rfl, hc2⟩ := hsl.at (by omega)
      have hcell2 := hc2 k hlt
      have by' := h2.lim.getD k
      clear hc2
      obtain ⟨y, hy⟩ : ∃ y, ys.getD k 0 = y := ⟨_, rfl⟩
      rw [hy] at hcell2 by'
      have HY := Lib.hid hy
      clear hy
      obtain ⟨p, q, s, HS, HB, e1, e2, e3⟩ := mul_sums by' hf bx hcy
      go_wp2
      go_quiet (fail)
      go_wp2
      go_roundw
      case rel => exact ⟨k + 1, s / 4294967296, by omega, by go_num, by go_num, HI.out.step (by omega) HX.out HY.out HS.out HB.out _⟩
      case measure => simp [intOf]; omega
    · obtain ⟨zs, hz, ht, hcy, hv⟩ := HI.out
      have HV := Lib.hid hv
      clear hv
      have hkn : k = n := by omega
      subst hkn
      go_wp2
      go_ret
      refine ⟨cy, ret_int (by omega), zs, hz, ht, hcy, ?_⟩
      rw [HV.out, val_take_all (xs := ys) (by rw [hl2.out]; omega)]
/-- One step of a difference. -/
theorem take_step {p A Y v x y f ov bo s a b : Nat} (h : A + (ov + bo) * p = v + f * Y) (hs : s = ov + y * f) (ha : x + b * 4294967296 = a + s % 4294967296 + bo) :
    (A + p * x) + (s / 4294967296 + b) * (p * 4294967296) = (v + p * a) + f * (Y + p * y) := by
  have e := Nat.mod_add_div s 4294967296
  have e2 : p * (x + b * 4294967296) = p * (a + s % 4294967296 + bo) := by rw [ha]
  have e3 : p * (s % 4294967296 + 4294967296 * (s / 4294967296)) = p * (ov + y * f) := by rw [e, hs]
  grind

def TakeInv (w : World) (g o : Nat) (l ys : List Nat) (f k ov bo : Nat) (wr : World) : Prop :=
  ∃ zs, zs.length = k ∧ Turned w g o l zs wr ∧ ov < 4294967296 ∧ bo ≤ 1 ∧ val ((l.drop o).take k) + (ov + bo) * 4294967296 ^ k = val zs + f * val (ys.take k)

theorem bor_eq {x t bo : Nat} (hx : x < 4294967296) (ht : t < 4294967296) (hb : bo ≤ 1) : x + bor x t bo * 4294967296 = (x + 4294967296 - t - bo) % 4294967296 + t + bo := by
  unfold bor
  split <;> omega

theorem TakeInv.step {w wr : World} {g o : Nat} {l ys : List Nat} {f k ov bo x y s t u : Nat} (h : TakeInv w g o l ys f k ov bo wr) (hk : o + k < l.length) (hx : l.getD (o + k) 0 = x) (hl : Lim l) (hy : ys.getD k 0 = y)
    (hs : s = ov + y * f) (ht : t = s % 4294967296) (hu : u = s / 4294967296) (hb : s / 4294967296 < 4294967296) :
    TakeInv w g o l ys f (k + 1) u (bor x t bo) (wr.setCell ⟨g, o + k, none⟩ (.int .u32 (((x + 4294967296 - t - bo) % 4294967296 : Nat) : Int))) := by
  obtain ⟨zs, rfl, hT, hov, hbo, hv⟩ := h
  subst ht; subst hu
  have bx : x < 4294967296 := by rw [← hx]; exact hl.getD _
  refine ⟨zs ++ [(x + 4294967296 - s % 4294967296 - bo) % 4294967296], by simp, hT.step hk (by omega), hb, bor_le _ _ _, ?_⟩
  rw [val_snoc, val_take_more, val_take_more, hy, getD_drop, hx, Nat.pow_succ]
  exact take_step hv hs (bor_eq bx (by omega) hbo)

/-- What takeFrom leaves. -/
def TakePost (w : World) (g o n : Nat) (l ys : List Nat) (f : Nat) (e : Ending) (w' : World) : Prop :=
  ∃ q : Nat, e = .returned (.bool (decide (0 < q))) ∧ ∃ zs, zs.length = n ∧ Turned w g o l zs w' ∧ val ((l.drop o).take n) + q * 4294967296 ^ n = val zs + f * val ys

theorem TakeInv.early {w wr : World} {g o n k : Nat} {l ys : List Nat} {f : Nat} (h : TakeInv w g o l ys f k 0 0 wr) (hl : Lim l) (hn : o + n ≤ l.length) (hk : k ≤ n) (hm : ys.length ≤ k) : TakePost w g o n l ys f (.returned (.bool false)) wr := by
  obtain ⟨zs, rfl, ht, _, _, hv⟩ := h
  refine ⟨0, rfl, zs ++ (l.drop (o + zs.length)).take (n - zs.length), by simp; omega, ⟨by rw [mid_more hn hk]; exact ht.1, ht.2.1, ht.2.2.append ((hl.drop _).take _)⟩, ?_⟩
  rw [val_append, val_seg_split hn hk]
  rw [val_take_all hm] at hv
  omega

theorem TakeInv.done {w wr : World} {g o n : Nat} {l ys : List Nat} {f ov bo : Nat} (h : TakeInv w g o l ys f n ov bo wr) (hm : ys.length ≤ n) {t : Bool} (ht : t = decide (0 < ov + bo)) : TakePost w g o n l ys f (.returned (.bool t)) wr := by
  obtain ⟨zs, hz, hT, _, _, hv⟩ := h
  exact ⟨ov + bo, by rw [ht], zs, hz, hT, by rw [hv, val_take_all hm]⟩

/-- The sums of a step, none of which wraps. -/
theorem take_sums {y f ov : Nat} (hy : y < 4294967296) (hf : f < 4294967296) (hc : ov < 4294967296) :
    ∃ p s t u : Nat, Hid (s = ov + y * f) ∧ Hid (t = s % 4294967296) ∧ Hid (u = s / 4294967296) ∧ Hid (s / 4294967296 < 4294967296) ∧ t < 4294967296 ∧ IntKind.u64.wrap ((y : Int) * f) = p ∧ IntKind.u64.wrap ((ov : Int) + p) = s ∧
      (s : Int) % 4294967296 = t ∧ (s : Int) / 4294967296 = u := by
  have hp := prod_lt hy hf
  refine ⟨y * f, ov + y * f, (ov + y * f) % 4294967296, (ov + y * f) / 4294967296, rfl, rfl, rfl, ?_, by omega, ?_, ?_, by omega, by omega⟩
  · show _ < _; omega
  · have := wrap_u64_nat (y * f) (by omega); simpa using this
  · have := wrap_u64_nat (ov + y * f) (by omega); simpa using this

set_option maxHeartbeats 1000000 in
theorem takeFrom_any (w : World) (g o n c b m c2 f : Nat) (A : Option Addr) (l ys : List Nat) (hg : Own w g l) (hl : Lim l) (hn : o + n ≤ l.length) (hbl : l.length ≤ 1099511627776) (h2 : Sl w b A m c2 ys) (hne : 0 < m → b ≠ g) (hm : m ≤ n) (hf : f < 4294967296) :
    Calls Tryd.prog 92 #[.slice (some ⟨g, o, none⟩) n c, .slice A m c2, .int .u32 (f : Int)] w (TakePost w g o n l ys f) := by
  have hl2 := Lib.hid h2.len
  go_enter Tryd.func92, Tryd.ntmps92
  go_wp2
  go_loopw [7, 8, 12] (fun v u i wr => ∃ k ov bo : Nat, k ≤ n ∧ i = .int .i64 k ∧ v = .int .u64 ov ∧ u = .int .u32 bo ∧ TakeInv w g o l ys f k ov bo wr) (fun _ _ i _ => n - (intOf i).toNat)
  case atStart => exact ⟨0, 0, 0, Nat.zero_le _, rfl, rfl, rfl, [], rfl, ⟨by rw [mid_nil]; exact hg, grown_refl _ _, Lim.nil⟩, by omega, by omega, by simp [val]⟩
  case round =>
    obtain ⟨k, ov, bo, hk, rfl, rfl, rfl, hI⟩ := hrel
    have HI := Lib.hid hI
    clear hI
    by_cases hlt : k < n
    · have HI' := HI
      obtain ⟨zs, hz, ht, hov, hbo, -⟩ := HI'
      have hcell := ht.cell (by omega)
      rw [hz] at hcell
      have hfr : wr.frozen? ⟨g, o + k, none⟩ = false := ht.1.frozen _
      have bx := hl.getD (o + k)
      have hsl := h2.grown ht.2.1 (fun h => by simpa using hne h)
      clear ht hz hg
      obtain ⟨x, hx⟩ : ∃ x, l.getD (o + k) 0 = x := ⟨_, rfl⟩
      rw [hx] at hcell bx
      have HX := Lib.hid hx
      clear hx
      by_cases hkm : k < m
      · obtain ⟨o2, rfl, hc2⟩ := hsl.at (by omega)
        have hcell2 := hc2 k hkm
        have by' := h2.lim.getD k
        clear hc2
        obtain ⟨y, hy⟩ : ∃ y, ys.getD k 0 = y := ⟨_, rfl⟩
        rw [hy] at hcell2 by'
        have HY := Lib.hid hy
        clear hy
        obtain ⟨p, s, t, u, HS, HT, HU, HB, bt, e1, e2, e3, e4⟩ := take_sums by' hf hov
        go_wp2_with (go_at_call 96; ((with_reducible refine (sub32_any x t bo bx bt hbo _).mono ?_); rintro e w' ⟨rfl, rfl⟩))
        go_roundw
        case rel => exact ⟨k + 1, u, bor x t bo, by omega, by go_num, rfl, rfl, HI.out.step (by omega) HX.out hl HY.out HS.out HT.out HU.out HB.out⟩
        case measure => simp [intOf]; omega
      · have HY := Lib.hid (getD_beyond (xs := ys) (k := k) (by rw [hl2.out]; omega))
        have HS' := Lib.hid (HI.out.step (s := ov) (t := ov) (u := 0) (by omega) HX.out hl HY.out (by simp) (by omega) (by omega) (by omega))
        by_cases h0 : ov = 0
        · subst h0
          by_cases h1 : bo = 0
          · subst h1
            go_wp2
            go_ret
            exact HI.out.early hl hn hk (by rw [hl2.out]; omega)
          · have h1' : ((bo : Int) == 0) = false := by simpa using h1
            go_wp2_with (go_at_call 96; ((with_reducible refine (sub32_zero x bo bx hbo _).mono ?_); rintro e w' ⟨rfl, rfl⟩))
            go_roundw
            case rel => exact ⟨k + 1, 0, bor x 0 bo, by omega, by go_num, rfl, rfl, HS'.out⟩
            case measure => simp [intOf]; omega
        · have h0' : ((ov : Int) == 0) = false := by simpa using h0
          go_wp2_with (go_at_call 96; ((with_reducible refine (sub32_any x ov bo bx hov hbo _).mono ?_); rintro e w' ⟨rfl, rfl⟩))
          go_roundw
          case rel => exact ⟨k + 1, 0, bor x ov bo, by omega, by go_num, by congr 1; omega, rfl, HS'.out⟩
          case measure => simp [intOf]; omega
    · have hkn : k = n := by omega
      subst hkn
      have HD := Lib.hid (fun t => HI.out.done (t := t) (by rw [hl2.out]; omega))
      by_cases h0 : ov = 0
      · subst h0
        by_cases h1 : bo = 0
        · subst h1
          go_wp2
          go_ret
          exact HD.out _ (by simp)
        · have h1' : ((bo : Int) != 0) = true := by simpa using h1
          go_wp2
          go_ret
          exact HD.out _ (by simp; omega)
      · have h0' : ((ov : Int) != 0) = true := by simpa using h0
        go_wp2
        go_ret
        exact HD.out _ (by simp; omega)
set_option maxHeartbeats 400000 in
theorem takeFrom_none (w : World) (c m c2 f : Nat) (A B : Option Addr) :
    Calls Tryd.prog 92 #[.slice B 0 c, .slice A m c2, .int .u32 (f : Int)] w fun e w' => e = .returned (.bool false) ∧ w = w' := by
  go_enter Tryd.func92, Tryd.ntmps92
  go_wp2
  go_loop [7, 8, 12] (fun v u i => v = .int .u64 0 ∧ u = .int .u32 0 ∧ i = .int .i64 0) (fun _ _ _ => 0)
  case atStart => exact ⟨rfl, rfl, rfl⟩
  case round =>
    obtain ⟨rfl, rfl, rfl⟩ := hrel
    go_wp2
    go_ret
    exact ⟨rfl, rfl⟩

theorem takeFrom_one (w : World) (g o n c b m c2 : Nat) (A : Option Addr) (l ys : List Nat) (hg : Own w g l) (hl : Lim l) (hn : o + n ≤ l.length) (hbl : l.length ≤ 1099511627776) (h2 : Sl w b A m c2 ys) (hne : 0 < m → b ≠ g) (hm : m ≤ n) :
    Calls Tryd.prog 92 #[.slice (some ⟨g, o, none⟩) n c, .slice A m c2, .int .u32 1] w (TakePost w g o n l ys 1) := takeFrom_any w g o n c b m c2 1 A l ys hg hl hn hbl h2 hne hm (by omega)
theorem takeFrom_none1 (w : World) (c m c2 : Nat) (A B : Option Addr) :
    Calls Tryd.prog 92 #[.slice B 0 c, .slice A m c2, .int .u32 1] w fun e w' => e = .returned (.bool false) ∧ w = w' := takeFrom_none w c m c2 1 A B
end Go.Proofs.YteoeoppkefcmdaaDoor

/-
  What nat.Add, nat.Sub and nat.Mul do, for all slices of limbs that are not too long for any machine.
-/
namespace Go.Proofs.YteoeoppkefcmdaaDoor
open Go.RowKit
set_option linter.unusedVariables false

/-- The facts of a slice that is cut. -/
theorem cut_sl {w : World} {b : Nat} {A : Option Addr} {n c : Nat} {xs : List Nat} (h : Sl w b A n c xs) : Sl w b A (limbs (val xs)).length c (limbs (val xs)) := by
  have := h.take (k := (limbs (val xs)).length) (by have := val_limbs_le h.lim; have := h.len; omega)
  rwa [limbs_prefix h.lim] at this

theorem lim_made {la : List Nat} (h : Lim la) (n k : Nat) : Lim (la ++ (List.replicate n 0).drop k) := h.append ((Lim.replicate n).drop k)

theorem made_len {la : List Nat} {n : Nat} (h : la.length ≤ n) : (la ++ (List.replicate n 0).drop la.length).length = n := by simp; omega

theorem val_made (la : List Nat) (n k : Nat) : val (la ++ (List.replicate n 0).drop k) = val la := by
  rw [val_append, List.drop_replicate, val_zeros]; simp

theorem grown_of_new {w w1 w2 : World} (h1 : Below w.heap.size w w1) (h2 : w1.grownBy w2 (some w.heap.size)) : Below w.heap.size w w2 := h1.trans (below_grown h2 (Nat.le_refl _) h1.size)

/-- The end of a sum. -/
theorem add_end {la lb zs : List Nat} {cy p : Nat} (hp : la.length = p) (hq : lb.length ≤ p) (ha : Lim la) (hb : Lim lb) (hz : zs.length = p + 1) (hv : val zs + cy * 4294967296 ^ (p + 1) = val la + val lb) : val zs = val la + val lb := by
  have h1 := val_lt ha
  have h2 := val_lt hb
  have h3 := Nat.pow_le_pow_right (n := 4294967296) (by decide) hq
  rw [hp] at h1
  rw [Nat.pow_succ] at hv
  rcases Nat.eq_zero_or_pos cy with e | e
  · subst e; omega
  · have := Nat.mul_le_mul_right (4294967296 ^ p * 4294967296) e
    omega

theorem Ret1.of {w w1 w' : World} {l : List Nat} {g c : Nat} {A : Option Addr} (h : Made w1 w' l g A c) (hb : Below w1.heap.size w1 w') (hw : Below w.heap.size w w1) : Ret1 w l (.returned (.slice A l.length c)) w' :=
  ⟨g, A, c, rfl, ⟨h.1, fun h0 => ⟨Nat.le_trans hw.size (h.2 h0).1, (h.2 h0).2⟩⟩, hw.trans (hb.mono hw.size)⟩

/-- What addTo leaves in a block of the call's own, as a slice. -/
theorem Turned.all {w w' : World} {g : Nat} {l zs : List Nat} (h : Turned w g 0 l zs w') (hz : zs.length = l.length) : Own w' g zs := by
  have := h.1
  unfold mid at this
  rw [hz] at this
  simpa using this

set_option maxHeartbeats 1000000 in
theorem add_core (w : World) (b1 b2 : Nat) (A1 A2 : Option Addr) (n m c1 c2 p q : Nat) (la lb : List Nat) (h1 : Sl w b1 A1 p c1 la) (h2 : Sl w b2 A2 q c2 lb)
    (HC1 : Hid (Calls Tryd.prog 76 #[.slice A1 n c1] w fun e w' => e = .returned (.slice A1 p c1) ∧ w = w'))
    (HC2 : Hid (Calls Tryd.prog 76 #[.slice A2 m c2] w fun e w' => e = .returned (.slice A2 q c2) ∧ w = w'))
    (hp : p ≤ 549755813888) (hq : q ≤ 549755813888) :
    Calls Tryd.prog 57 #[.slice A1 n c1, .slice A2 m c2] w (Ret1 w (limbs (val la + val lb))) := by
  have H1 := Lib.hid h1.len
  have H2 := Lib.hid h2.len
  by_cases hpq : p < q
  · have hmk := fun W => run_make32' (q + 1) ((q : Int) + 1) (by omega) (by omega) W
    have hal : Below w.heap.size w (w.alloc (.cells (arr (List.replicate (q + 1) 0)) 51)) := (Below.refl _ _).alloc (Nat.le_refl _) _
    go_enter Tryd.func57, Tryd.ntmps57
    go_wp2_with (first
      | (go_at_call 76; ((with_reducible refine HC1.out.mono ?_); rintro e w' ⟨rfl, rfl⟩))
      | (go_at_call 76; ((with_reducible refine HC2.out.mono ?_); rintro e w' ⟨rfl, rfl⟩))
      | (with_reducible refine wpList_copy32 rfl (.tmp 21) (.tmp 22) 22 rfl 51 Tryd.underlying22 size32 w.heap.size (q + 1) (q + 1) b2 A2 q c2 (List.replicate (q + 1) 0) lb rfl rfl (Own.new w _) (h2.below hal) (by simp) (by omega) ?_; intro w2 ho2 hg2; have HO2 := Lib.hid ho2; clear ho2))
    have HB2 := Lib.hid (grown_of_new hal hg2)
    have hlen : (lb ++ (List.replicate (q + 1) 0).drop q).length = q + 1 := by have := H2.out; simp; omega
    refine (addTo_any w2 w.heap.size 0 (q + 1) (q + 1) b1 p c1 A1 _ la HO2.out (lim_made h2.lim _ _) (by omega) (by omega) (h1.below HB2.out) (fun h => by have := h1.lt h; omega) (by omega)).mono ?_
    rintro e w3 ⟨rfl, zs, cy, hz, ht, hcy, hv⟩
    rw [List.drop_zero, List.take_of_length_le (by omega), val_made] at hv
    have HV := Lib.hid (add_end H2.out (by rw [H1.out]; omega) h2.lim h1.lim hz hv)
    have HO3 := Lib.hid (ht.all (by omega))
    have HB3 := Lib.hid (HB2.out.trans (below_grown ht.2.1 (Nat.le_refl _) HB2.out.size))
    have HL := Lib.hid ht.2.2
    have HZ := Lib.hid hz
    clear hv ht hlen hg2 hmk hal hz HC1 HC2
    have hs := HO3.out.all HL.out (by rw [HZ.out]; omega) (c := q + 1) (by rw [HZ.out]; omega)
    rw [HZ.out] at hs
    go_wp2_with (go_at_call 67; ((with_reducible refine (trim_any w3 w.heap.size _ (q + 1) (q + 1) zs hs).mono ?_); rintro e w4 ⟨g4, A4, c4, rfl, hm4, hb4⟩))
    go_ret
    rw [HV.out] at hm4
    rw [HV.out, Nat.add_comm (val la)]
    rw [Nat.add_comm] at hm4 ⊢
    exact Ret1.of hm4 hb4 HB3.out
  · have hmk := fun W => run_make32' (p + 1) ((p : Int) + 1) (by omega) (by omega) W
    have hal : Below w.heap.size w (w.alloc (.cells (arr (List.replicate (p + 1) 0)) 51)) := (Below.refl _ _).alloc (Nat.le_refl _) _
    go_enter Tryd.func57, Tryd.ntmps57
    go_wp2_with (first
      | (go_at_call 76; ((with_reducible refine HC1.out.mono ?_); rintro e w' ⟨rfl, rfl⟩))
      | (go_at_call 76; ((with_reducible refine HC2.out.mono ?_); rintro e w' ⟨rfl, rfl⟩))
      | (with_reducible refine wpList_copy32 rfl (.tmp 21) (.tmp 22) 22 rfl 51 Tryd.underlying22 size32 w.heap.size (p + 1) (p + 1) b1 A1 p c1 (List.replicate (p + 1) 0) la rfl rfl (Own.new w _) (h1.below hal) (by simp) (by omega) ?_; intro w2 ho2 hg2; have HO2 := Lib.hid ho2; clear ho2))
    have HB2 := Lib.hid (grown_of_new hal hg2)
    have hlen : (la ++ (List.replicate (p + 1) 0).drop p).length = p + 1 := by have := H1.out; simp; omega
    refine (addTo_any w2 w.heap.size 0 (p + 1) (p + 1) b2 q c2 A2 _ lb HO2.out (lim_made h1.lim _ _) (by omega) (by omega) (h2.below HB2.out) (fun h => by have := h2.lt h; omega) (by omega)).mono ?_
    rintro e w3 ⟨rfl, zs, cy, hz, ht, hcy, hv⟩
    rw [List.drop_zero, List.take_of_length_le (by omega), val_made] at hv
    have HV := Lib.hid (add_end H1.out (by rw [H2.out]; omega) h1.lim h2.lim hz hv)
    have HO3 := Lib.hid (ht.all (by omega))
    have HB3 := Lib.hid (HB2.out.trans (below_grown ht.2.1 (Nat.le_refl _) HB2.out.size))
    have HL := Lib.hid ht.2.2
    have HZ := Lib.hid hz
    clear hv ht hlen hg2 hmk hal hz HC1 HC2
    have hs := HO3.out.all HL.out (by rw [HZ.out]; omega) (c := p + 1) (by rw [HZ.out]; omega)
    rw [HZ.out] at hs
    go_wp2_with (go_at_call 67; ((with_reducible refine (trim_any w3 w.heap.size _ (p + 1) (p + 1) zs hs).mono ?_); rintro e w4 ⟨g4, A4, c4, rfl, hm4, hb4⟩))
    go_ret
    rw [HV.out] at hm4
    rw [HV.out]
    exact Ret1.of hm4 hb4 HB3.out

theorem add_any (w : World) (b1 b2 : Nat) (A1 A2 : Option Addr) (n m c1 c2 : Nat) (xs ys : List Nat) (h1 : Sl w b1 A1 n c1 xs) (h2 : Sl w b2 A2 m c2 ys) (hn : n ≤ 549755813888) (hm : m ≤ 549755813888) :
    Calls Tryd.prog 57 #[.slice A1 n c1, .slice A2 m c2] w (Ret1 w (limbs (val xs + val ys))) := by
  have := add_core w b1 b2 A1 A2 n m c1 c2 _ _ _ _ (cut_sl h1) (cut_sl h2) (cut_any w b1 A1 n c1 xs h1) (cut_any w b2 A2 m c2 ys h2)
    (by have := val_limbs_le h1.lim; have := h1.len; omega) (by have := val_limbs_le h2.lim; have := h2.len; omega)
  rwa [val_limbs, val_limbs] at this

set_option maxHeartbeats 400000 in
theorem sub_lt (w : World) (b1 b2 : Nat) (A1 A2 : Option Addr) (n m c1 c2 : Nat) (xs ys : List Nat) (h1 : Sl w b1 A1 n c1 xs) (h2 : Sl w b2 A2 m c2 ys) (hlt : val xs < val ys) :
    Calls Tryd.prog 81 #[.slice A1 n c1, .slice A2 m c2] w fun e w' => e = .returned (.tuple #[.slice none 0 0, .bool false]) ∧ ∃ q, w' = w.drewN q := by
  have HC := cmp_any w b1 b2 A1 A2 n m c1 c2 xs ys h1 h2
  rw [cmpI_lt (by omega)] at HC
  have HC := Lib.hid HC
  clear h1 h2 hlt
  go_enter Tryd.func81, Tryd.ntmps81
  go_wp2_with (go_at_call 80; ((with_reducible refine HC.out.mono ?_); rintro e w' ⟨rfl, q, rfl⟩))
  go_ret2
  exact ⟨rfl, _, rfl⟩

/-- What a call answers, if it answers a list of limbs in memory of its own, and true. -/
def Ret1T (w : World) (l : List Nat) (e : Ending) (w' : World) : Prop :=
  ∃ g A c, e = .returned (.tuple #[.slice A l.length c, .bool true]) ∧ Made w w' l g A c ∧ Below w.heap.size w w'

theorem Made.of {w w1 w' : World} {l : List Nat} {g c : Nat} {A : Option Addr} (h : Made w1 w' l g A c) (hw : Below w.heap.size w w1) : Made w w' l g A c :=
  ⟨h.1, fun h0 => ⟨Nat.le_trans hw.size (h.2 h0).1, (h.2 h0).2⟩⟩

theorem cmpI_ge {a b : Nat} (h : b ≤ a) : ∃ z : Int, cmpI (a : Int) (b : Int) = z ∧ 0 ≤ z := by
  rcases Nat.lt_or_ge b a with h1 | h1
  · exact ⟨_, cmpI_gt (by omega), by omega⟩
  · exact ⟨_, cmpI_eq (by omega), by omega⟩

theorem sub_end {a b z q p : Nat} (hv : a + q * p = z + 1 * b) (hz : z < p) (h : b ≤ a) : z = a - b := by
  rcases Nat.eq_zero_or_pos q with e | e
  · subst e; omega
  · have := Nat.mul_le_mul_right p e
    omega

set_option maxHeartbeats 1000000 in
theorem sub_ge (w : World) (b1 b2 : Nat) (A1 A2 : Option Addr) (n m c1 c2 : Nat) (xs ys : List Nat) (h1 : Sl w b1 A1 n c1 xs) (h2 : Sl w b2 A2 m c2 ys) (hge : val ys ≤ val xs) :
    Calls Tryd.prog 81 #[.slice A1 n c1, .slice A2 m c2] w (Ret1T w (limbs (val xs - val ys))) := by
  have HC := cmp_any w b1 b2 A1 A2 n m c1 c2 xs ys h1 h2
  obtain ⟨z, hz, hz0⟩ := cmpI_ge hge
  rw [hz] at HC
  have HC := Lib.hid HC
  clear hz
  have HG := Lib.hid hge
  clear hge
  go_enter Tryd.func81, Tryd.ntmps81
  go_wp2_with (first
    | (go_at_call 80; ((with_reducible refine HC.out.mono ?_); rintro e w' ⟨rfl, q, rfl⟩))
    | (go_at_call 67; ((with_reducible refine (trim_any _ b1 A1 n c1 xs (h1.drewN _)).mono ?_); rintro e w2 ⟨g, A, c, rfl, hm2, hb2⟩)))
  have hsl2 : Sl w2 b2 A2 m c2 ys := (h2.drewN _).below hb2
  have hb2' : Below w.heap.size w w2 := (below_drewN (Below.refl _ _) _).trans hb2
  clear HC hb2
  refine (cut_any w2 b2 A2 m c2 ys hsl2).mono ?_
  rintro e w3 ⟨rfl, rfl⟩
  have hcs := Lib.hid (cut_sl hsl2)
  by_cases h0 : val xs = 0
  · have hy0 : val ys = 0 := by have := HG.out; omega
    have HE : Hid (limbs (val xs - val ys) = []) := by show _ = _; rw [h0, Nat.zero_sub, limbs_zero]
    rw [h0, limbs_zero] at hm2
    rw [h0, hy0]
    simp only [limbs_zero, List.length_nil]
    have hz : Sl w2 g A 0 c [] := hm2.1
    clear hm2 h0 hy0 hcs HG
    go_wp2_with (first
      | (go_at_call 92; ((with_reducible refine (takeFrom_none1 _ _ _ _ _ _).mono ?_); rintro e w4 ⟨rfl, rfl⟩))
      | (go_at_call 67; ((with_reducible refine (trim_any w2 g A 0 c [] hz).mono ?_); rintro e w4 ⟨g4, A4, c4, rfl, hm4, hb4⟩)))
    go_ret2
    have e : limbs (val []) = [] := limbs_zero
    rw [e] at hm4
    rw [e, HE.out]
    exact ⟨g4, A4, c4, rfl, hm4.of hb2', hb2'.trans (hb4.mono hb2'.size)⟩
  · have hpos : 0 < (limbs (val xs)).length := Nat.pos_of_ne_zero fun e => h0 (limbs_length_zero.1 e)
    obtain ⟨hg, rfl, hown⟩ := hm2.2 hpos
    have hge := HG.out
    have hbig := hm2.1.big
    have hcap := hm2.1.cap
    have hlen := limbs_length_mono hge
    have HOWN := Lib.hid hown
    have hgw : w.heap.size ≤ g := hg
    clear hown hm2 hg h0
    go_wp2_with fail
    refine (takeFrom_one w2 g 0 _ c b2 _ c2 A2 _ _ HOWN.out (lim_limbs _) (by omega) hbig hcs.out (fun h => by have := h2.lt (by have := val_limbs_le h2.lim; have := h2.len; omega); omega) hlen).mono ?_
    rintro e w4 ⟨q4, rfl, zs, hz, ht, hv⟩
    rw [List.drop_zero, List.take_length, val_limbs, val_limbs] at hv
    have HV := Lib.hid (sub_end hv (by have := val_lt ht.2.2; rwa [hz] at this) hge)
    have HO4 := Lib.hid (ht.all hz)
    have HB4 := Lib.hid (hb2'.trans (below_grown ht.2.1 hgw hb2'.size))
    have hs := ((ht.all hz).all ht.2.2 (by omega) (c := c) (by rw [hz]; exact hcap))
    rw [hz] at hs
    clear hv ht HOWN hge HG hcs hz hlen hpos
    go_wp2_with (go_at_call 67; ((with_reducible refine (trim_any w4 g _ _ _ zs hs).mono ?_); rintro e w5 ⟨g5, A5, c5, rfl, hm5, hb5⟩))
    go_ret2
    rw [HV.out] at hm5
    rw [HV.out]
    exact ⟨g5, A5, c5, rfl, hm5.of HB4.out, HB4.out.trans (hb5.mono HB4.out.size)⟩
end Go.Proofs.YteoeoppkefcmdaaDoor

/-
  What nat.divLimb does, for every slice of limbs and every limb that is not nought.
-/
namespace Go.Proofs.YteoeoppkefcmdaaDoor
open Go.RowKit
set_option linter.unusedVariables false

/-- A slice that a call answered, as limbs. -/
def Out (w : World) (l : List Nat) (A : Option Addr) (c : Nat) : Prop := ∃ b, Sl w b A l.length c l

theorem Out.below {w w' : World} {l : List Nat} {A : Option Addr} {c : Nat} (h : Out w l A c) (hb : Below w.heap.size w w') : Out w' l A c := by
  obtain ⟨b, h⟩ := h
  exact ⟨b, h.below hb⟩

/-- A quotient and what is left. -/
def Ret2 (w : World) (lq lr : List Nat) (e : Ending) (w' : World) : Prop :=
  ∃ A1 c1 A2 c2, e = .returned (.tuple #[.slice A1 lq.length c1, .slice A2 lr.length c2]) ∧ Out w' lq A1 c1 ∧ Out w' lr A2 c2 ∧ Below w.heap.size w w'

def LimbInv (w : World) (g n d : Nat) (xs : List Nat) (k r : Nat) (wr : World) : Prop :=
  ∃ hs : List Nat, hs.length = k ∧ Lim hs ∧ r < d ∧ Own wr g (List.replicate (n - k) 0 ++ hs) ∧ w.grownBy wr (some g) ∧ val hs * d + r = val (xs.drop (n - k))

theorem limb_step {w wr : World} {g n d k r x : Nat} {xs hs : List Nat} (hd : d < 4294967296) (hl : Lim xs) (hn : xs.length = n) (hk : k < n) (hhs : hs.length = k) (hsl : Lim hs) (hr : r < d) (hown : Own wr g (List.replicate (n - k) 0 ++ hs)) (hgr : w.grownBy wr (some g))
    (hv : val hs * d + r = val (xs.drop (n - k))) (hx : xs.getD (n - 1 - k) 0 = x) (q : Nat) :
    LimbInv w g n d xs (k + 1) ((r * 4294967296 + x) % d) ((wr.drewN q).setCell ⟨g, n - 1 - k, none⟩ (.int .u32 (((r * 4294967296 + x) / d : Nat) : Int))) := by
  have hd0 : 0 < d := by omega
  have bx : x < 4294967296 := by rw [← hx]; exact hl.getD _
  have hq : (r * 4294967296 + x) / d < 4294967296 := by
    rw [Nat.div_lt_iff_lt_mul hd0, Nat.mul_comm 4294967296 d]
    have := Nat.mul_le_mul_right 4294967296 (show r + 1 ≤ d from hr)
    omega
  refine ⟨(r * 4294967296 + x) / d :: hs, by simp; omega, Lim.cons hq hsl, Nat.mod_lt _ hd0, ?_, grown_set (grown_drewN hgr q) _, ?_⟩
  · have h2 : Own ((wr.drewN q).setCell ⟨g, n - 1 - k, none⟩ (.int .u32 (((r * 4294967296 + x) / d : Nat) : Int))) g ((List.replicate (n - k) 0 ++ hs).set (n - 1 - k) ((r * 4294967296 + x) / d)) := Own.set (w := wr.drewN q) hown _ _
    have e : (List.replicate (n - k) 0 ++ hs).set (n - 1 - k) ((r * 4294967296 + x) / d) = List.replicate (n - (k + 1)) 0 ++ ((r * 4294967296 + x) / d :: hs) := by
      rw [show n - k = n - (k + 1) + 1 by omega, ← List.replicate_append_replicate, List.append_assoc, List.set_append_right _ _ (by simp; omega), List.length_replicate, show n - 1 - k - (n - (k + 1)) = 0 by omega]
      simp
    rwa [e] at h2
  · rw [show n - (k + 1) = n - 1 - k by omega, val_drop (by omega), hx, show n - 1 - k + 1 = n - k by omega, ← hv, val_cons]
    have e := Nat.mod_add_div (r * 4294967296 + x) d
    have e2 : (r * 4294967296 + x) / d * d = d * ((r * 4294967296 + x) / d) := Nat.mul_comm _ _
    rw [Nat.add_mul, e2, Nat.mul_assoc]
    generalize d * ((r * 4294967296 + x) / d) = t at *
    generalize (r * 4294967296 + x) % d = u at *
    generalize val hs * d = v at *
    omega

end Go.Proofs.YteoeoppkefcmdaaDoor

/-
  What nat.guessDigit and nat.takeDigit do.
-/
namespace Go.Proofs.YteoeoppkefcmdaaDoor
open Go.RowKit
set_option linter.unusedVariables false

/-- A guess that is not too small, and of which the two highest limbs of the divisor are in the three highest limbs of the rest, is the digit, or one more. -/
theorem guess_le {P top r2 R' high next v' D : Nat} (hD : D < 4294967296) (hh : 0 < high) (hv : v' < P) (hx : D * (high * 4294967296 + next) ≤ top * 4294967296 + r2) :
    D ≤ (P * (top * 4294967296 + r2) + R') / (P * (high * 4294967296 + next) + v') + 1 := by
  have hP : 0 < P := by omega
  have hV : 0 < P * (high * 4294967296 + next) + v' := by
    have : 0 < P * (high * 4294967296 + next) := Nat.mul_pos hP (by omega)
    omega
  have h1 : D * (P * (high * 4294967296 + next) + v') < (P * (top * 4294967296 + r2) + R') + (P * (high * 4294967296 + next) + v') := by
    have a1 : D * (P * (high * 4294967296 + next)) ≤ P * (top * 4294967296 + r2) := by
      rw [Nat.mul_left_comm]
      exact Nat.mul_le_mul_left P hx
    have a2 : D * v' ≤ 4294967295 * P := Nat.mul_le_mul (by omega) (by omega)
    have a3 : P * 4294967296 ≤ P * (high * 4294967296 + next) := Nat.mul_le_mul_left P (by omega)
    rw [Nat.mul_add]
    omega
  have h2 : (D - 1) * (P * (high * 4294967296 + next) + v') ≤ P * (top * 4294967296 + r2) + R' := by
    rw [Nat.sub_mul, Nat.one_mul]
    omega
  have h3 := (Nat.le_div_iff_mul_le hV).2 h2
  omega

/-- No number that is in the rest is too much for the highest limbs. -/
theorem guess_ge {P top r2 R' high next v' q : Nat} (hR : R' < P) (hq : q * (P * (high * 4294967296 + next) + v') ≤ P * (top * 4294967296 + r2) + R') : q * (high * 4294967296 + next) ≤ top * 4294967296 + r2 := by
  have a1 : P * (q * (high * 4294967296 + next)) ≤ q * (P * (high * 4294967296 + next) + v') := by
    rw [Nat.mul_add q (P * (high * 4294967296 + next)) v', Nat.mul_left_comm q P]
    exact Nat.le_add_right _ _
  have a2 : P * (q * (high * 4294967296 + next)) < P * (top * 4294967296 + r2 + 1) := by
    rw [Nat.mul_add P (top * 4294967296 + r2)]
    omega
  have := Nat.lt_of_mul_lt_mul_left a2
  omega

theorem guess_top {top r2 high next q : Nat} (h2 : r2 < 4294967296) (h : q * (high * 4294967296 + next) ≤ top * 4294967296 + r2) : q * high ≤ top := by
  have a : q * high * 4294967296 ≤ q * (high * 4294967296 + next) := by
    rw [Nat.mul_add, Nat.mul_assoc]
    exact Nat.le_add_right _ _
  have b : q * high * 4294967296 < (top + 1) * 4294967296 := by omega
  have := Nat.lt_of_mul_lt_mul_right b
  omega

/-- The rest and the divisor, by their highest limbs. -/
theorem top3 {rs : List Nat} {n : Nat} (hn : 2 ≤ n) (hl : rs.length = n + 1) : val rs = 4294967296 ^ (n - 2) * ((rs.getD n 0 * 4294967296 + rs.getD (n - 1) 0) * 4294967296 + rs.getD (n - 2) 0) + val (rs.take (n - 2)) := by
  rw [val_take_drop rs (k := n - 2) (by omega), val_drop (by omega), show n - 2 + 1 = n - 1 by omega, val_drop (by omega), show n - 1 + 1 = n by omega, val_drop (by omega), List.drop_eq_nil_of_le (by omega), val_nil, Nat.add_comm]
  congr 2
  omega

theorem top2 {ds : List Nat} {n : Nat} (hn : 2 ≤ n) (hl : ds.length = n) : val ds = 4294967296 ^ (n - 2) * (ds.getD (n - 1) 0 * 4294967296 + ds.getD (n - 2) 0) + val (ds.take (n - 2)) := by
  rw [val_take_drop ds (k := n - 2) (by omega), val_drop (by omega), show n - 2 + 1 = n - 1 by omega, val_drop (by omega), List.drop_eq_nil_of_le (by omega), val_nil, Nat.add_comm]
  congr 2
  omega

/-- What holds of a guess: it is not too small. -/
def GuessInv (q top high : Nat) (D lf : Nat) : Prop := q ≤ D ∧ D < 4294967296 ∧ lf + D * high = top

theorem guess_start {q top high : Nat} (hh : 0 < high) (hq : q < 4294967296) (hqt : q * high ≤ top) : GuessInv q top high (min (top / high) 4294967295) (top - min (top / high) 4294967295 * high) := by
  have h1 := (Nat.le_div_iff_mul_le hh).2 hqt
  have h2 : min (top / high) 4294967295 * high ≤ top := by
    have := Nat.mul_le_mul_right high (Nat.min_le_left (top / high) 4294967295)
    have := Nat.div_mul_le_self top high
    omega
  exact ⟨by omega, by omega, by omega⟩

theorem guess_down {q top r2 high next D lf : Nat} (h : GuessInv q top high D lf) (hqq : q * (high * 4294967296 + next) ≤ top * 4294967296 + r2) (hgt : lf * 4294967296 + r2 < D * next) : GuessInv q top high (D - 1) (lf + high) ∧ 0 < D := by
  obtain ⟨h1, h2, h3⟩ := h
  have hD : 0 < D := by
    rcases Nat.eq_zero_or_pos D with e | e
    · subst e; omega
    · exact e
  have hne : q ≠ D := by
    rintro rfl
    rw [Nat.mul_add, ← Nat.mul_assoc] at hqq
    rw [← h3] at hqq
    omega
  refine ⟨⟨by omega, by omega, ?_⟩, hD⟩
  obtain ⟨d, rfl⟩ : ∃ d, D = d + 1 := ⟨D - 1, by omega⟩
  rw [Nat.add_sub_cancel]
  rw [Nat.add_mul, Nat.one_mul] at h3
  omega

theorem guess_end {q top r2 high next D lf : Nat} (h : GuessInv q top high D lf) (hle : D * next ≤ lf * 4294967296 + r2) : D * (high * 4294967296 + next) ≤ top * 4294967296 + r2 := by
  obtain ⟨_, _, h3⟩ := h
  rw [Nat.mul_add, ← Nat.mul_assoc, ← h3]
  omega

theorem guess_end_big {q top r2 high next D lf : Nat} (h : GuessInv q top high D lf) (hn : next < 4294967296) (hb : 4294967296 ≤ lf) : D * (high * 4294967296 + next) ≤ top * 4294967296 + r2 := by
  apply guess_end h
  have := Nat.mul_le_mul (show D ≤ 4294967295 by have := h.2.1; omega) (show next ≤ 4294967295 by omega)
  omega

/-- The numbers ahead of the loop. -/
theorem guess_nums {a b high : Nat} (ha : a < 4294967296) (hb : b < 4294967296) (hh : 0 < high) :
    ∃ top d0 D p lf : Nat, Hid (top = a * 4294967296 + b) ∧ Hid (D = min (top / high) 4294967295) ∧ Hid (lf = top - D * high) ∧ bits BinOp.or IntKind.u64 ((a : Int) * 4294967296) (b : Int) = top ∧ (top : Int) / high = d0 ∧ IntKind.u64.wrap (d0 : Int) = d0 ∧
      (if (4294967295 : Int) < d0 then (4294967295 : Int) else d0) = D ∧ IntKind.u64.wrap ((D : Int) * high) = p ∧ IntKind.u64.wrap ((top : Int) - p) = lf := by
  have hD : min ((a * 4294967296 + b) / high) 4294967295 * high ≤ a * 4294967296 + b := by
    have := Nat.mul_le_mul_right high (Nat.min_le_left ((a * 4294967296 + b) / high) 4294967295)
    have := Nat.div_mul_le_self (a * 4294967296 + b) high
    omega
  refine ⟨a * 4294967296 + b, (a * 4294967296 + b) / high, min ((a * 4294967296 + b) / high) 4294967295, min ((a * 4294967296 + b) / high) 4294967295 * high, a * 4294967296 + b - min ((a * 4294967296 + b) / high) 4294967295 * high, rfl, rfl, rfl, ?_, ?_, ?_, ?_, ?_, ?_⟩
  · have := or_join a b ha hb
    rw [this]; simp
  · simp
  · exact wrap_u64_nat _ (Nat.lt_of_le_of_lt (Nat.div_le_self _ _) (by omega))
  · split <;> omega
  · have := wrap_u64_nat (min ((a * 4294967296 + b) / high) 4294967295 * high) (by omega)
    simpa using this
  · have := wrap_u64_nat (a * 4294967296 + b - min ((a * 4294967296 + b) / high) 4294967295 * high) (by omega)
    rw [Int.natCast_sub hD] at this
    exact this.trans (by omega)

def GuessPost (w : World) (q : Nat) (e : Ending) (w' : World) : Prop := ∃ D m : Nat, e = .returned (.int .u32 (D : Int)) ∧ w' = w.drewN m ∧ q ≤ D ∧ D ≤ q + 1 ∧ D < 4294967296

theorem Turned.trans {w w1 w2 : World} {g o : Nat} {l zs ys : List Nat} (h : Turned w g o l zs w1) (k : Turned w1 g o (mid l o zs) ys w2) (hl : o + zs.length ≤ l.length) (hz : ys.length = zs.length) : Turned w g o l ys w2 :=
  ⟨by have := k.1; rwa [mid_mid hl hz] at this, grown_trans h.2.1 k.2.1, k.2.2⟩

/-- What takeDigit leaves. -/
def DigitPost (w : World) (g o n : Nat) (l : List Nat) (R V : Nat) (e : Ending) (w' : World) : Prop :=
  e = .returned (.int .u32 ((R / V : Nat) : Int)) ∧ ∃ zs, zs.length = n ∧ Turned w g o l zs w' ∧ val zs = R % V

theorem div_split (R V : Nat) : R / V * V + R % V = R := by rw [Nat.mul_comm]; exact Nat.div_add_mod R V

theorem digit_exact {R V Q r z q P : Nat} (h1 : Q * V + r = R) (h2 : r < V) (hv : R + q * P = z + Q * V) (hz : z < P) : q = 0 ∧ z = r := by
  rcases Nat.eq_zero_or_pos q with e | e
  · subst e; exact ⟨rfl, by omega⟩
  · have := Nat.mul_le_mul_right P e
    omega

theorem digit_over {R V Q r z q P : Nat} (h1 : Q * V + r = R) (h2 : r < V) (hv : R + q * P = z + (Q + 1) * V) : 0 < q := by
  rw [Nat.add_mul, Nat.one_mul] at hv
  rcases Nat.eq_zero_or_pos q with e | e
  · subst e; omega
  · exact e

theorem digit_back {R V Q r z q P z2 cy : Nat} (h1 : Q * V + r = R) (h2 : r < V) (hv : R + q * P = z + (Q + 1) * V) (hz : z < P) (hz2 : z2 < P) (hVP : V < P) (hcy : cy ≤ 1) (hv2 : z2 + cy * P = z + V) : z2 = r := by
  have h0 := digit_over h1 h2 hv
  rw [Nat.add_mul, Nat.one_mul] at hv
  have hq : q = 1 := by
    rcases Nat.lt_or_ge q 2 with e | e
    · omega
    · have := Nat.mul_le_mul_right P e
      omega
  subst hq
  rcases (by omega : cy = 0 ∨ cy = 1) with e | e
  · subst e; omega
  · subst e; omega

end Go.Proofs.YteoeoppkefcmdaaDoor

/-
  What nat.raised does, for all slices of limbs that are not too long for any machine.
-/
namespace Go.Proofs.YteoeoppkefcmdaaDoor
open Go.RowKit
set_option linter.unusedVariables false

/-- A block that holds the first i limbs, raised, and noughts behind them. -/
def RaiseInv (w : World) (g n sk lo : Nat) (xs : List Nat) (i : Nat) (wr : World) : Prop :=
  ∃ hs : List Nat, ∃ t : Nat, hs.length = i + sk ∧ Lim hs ∧ t < 2 ^ lo ∧ Own wr g (hs ++ [t] ++ List.replicate (n - i) 0) ∧ w.grownBy wr (some g) ∧ val (hs ++ [t]) = val (xs.take i) * 2 ^ (32 * sk + lo)

theorem pow_split (sk lo : Nat) : 2 ^ (32 * sk + lo) = 4294967296 ^ sk * 2 ^ lo := by rw [Nat.pow_add, Nat.pow_mul]

theorem lo_dvd {lo x : Nat} (hlo : lo < 32) : x * 2 ^ lo % 4294967296 % 2 ^ lo = 0 := by
  have e : 4294967296 = 2 ^ lo * 2 ^ (32 - lo) := by rw [← Nat.pow_add, show lo + (32 - lo) = 32 by omega]
  rw [e, Nat.mod_mul_right_mod, Nat.mul_mod_left]

theorem lo_sum {lo x t : Nat} (hlo : lo < 32) (ht : t < 2 ^ lo) : t + x * 2 ^ lo % 4294967296 < 4294967296 := by
  have e : 4294967296 = 2 ^ lo * 2 ^ (32 - lo) := by rw [← Nat.pow_add, show lo + (32 - lo) = 32 by omega]
  have h1 : x * 2 ^ lo % 4294967296 < 4294967296 := Nat.mod_lt _ (by decide)
  have h2 := lo_dvd (x := x) hlo
  obtain ⟨q, hq⟩ := Nat.dvd_of_mod_eq_zero h2
  rw [hq] at h1 ⊢
  rw [e] at h1
  have h3 : q < 2 ^ (32 - lo) := Nat.lt_of_mul_lt_mul_left h1
  have h4 := Nat.mul_le_mul_left (2 ^ lo) (show q + 1 ≤ 2 ^ (32 - lo) from h3)
  rw [← e, Nat.mul_add, Nat.mul_one] at h4
  omega

/-- The numbers of a round. -/
theorem raise_nums {x t lo : Nat} (hlo : lo < 32) (ht : t < 2 ^ lo) (hx : x < 4294967296) :
    ∃ p pl ph v : Nat, Hid (p = x * 2 ^ lo) ∧ Hid (pl = p % 4294967296) ∧ Hid (ph = p / 4294967296) ∧ Hid (v = t + pl) ∧ Hid (v < 4294967296) ∧ Hid (ph < 2 ^ lo) ∧ IntKind.u64.wrap ((x : Int) * 2 ^ lo) = p ∧ (p : Int) % 4294967296 = pl ∧
      (p : Int) / 4294967296 % 4294967296 = ph ∧ bits BinOp.or IntKind.u32 (t : Int) (pl : Int) = v := by
  have hp : 2 ^ lo ≤ 2147483648 := Nat.pow_le_pow_right (n := 2) (by decide) (show lo ≤ 31 by omega)
  have hb : x * 2 ^ lo ≤ 4294967295 * 2147483648 := Nat.mul_le_mul (by omega) hp
  have hl := lo_sum (x := x) hlo ht
  have hph : x * 2 ^ lo / 4294967296 < 2 ^ lo := by
    rw [Nat.div_lt_iff_lt_mul (by decide), Nat.mul_comm]
    exact Nat.mul_lt_mul_of_pos_left hx (Nat.two_pow_pos lo)
  refine ⟨x * 2 ^ lo, x * 2 ^ lo % 4294967296, x * 2 ^ lo / 4294967296, t + x * 2 ^ lo % 4294967296, rfl, rfl, rfl, rfl, hl, hph, ?_, by omega, by omega, ?_⟩
  · have := wrap_u64_nat (x * 2 ^ lo) (by omega)
    simpa using this
  · rw [u32_or_nat _ _ (by omega) (by omega), Nat.or_comm, nat_join lo _ _ (lo_dvd hlo) ht, Nat.add_comm]

/-- One round. -/
theorem raise_step {w wr : World} {g n sk lo k x : Nat} {xs hs : List Nat} {t p pl ph v : Nat} (hk : k < n) (hl : xs.length = n) (hhs : hs.length = k + sk) (hsl : Lim hs) (hown : Own wr g (hs ++ [t] ++ List.replicate (n - k) 0)) (hgr : w.grownBy wr (some g))
    (hv : val (hs ++ [t]) = val (xs.take k) * 2 ^ (32 * sk + lo)) (hx : xs.getD k 0 = x) (hp : p = x * 2 ^ lo) (hpl : pl = p % 4294967296) (hph : ph = p / 4294967296) (hvv : v = t + pl) (hvb : v < 4294967296) (hpb : ph < 2 ^ lo) :
    RaiseInv w g n sk lo xs (k + 1) ((wr.setCell ⟨g, k + sk, none⟩ (.int .u32 (v : Int))).setCell ⟨g, k + sk + 1, none⟩ (.int .u32 (ph : Int))) := by
  refine ⟨hs ++ [v], ph, by simp; omega, hsl.append (Lim.cons hvb Lim.nil), hpb, ?_, grown_set (grown_set hgr _) _, ?_⟩
  · have h1 := (hown.set (k + sk) v).set (k + sk + 1) ph
    have e : ((hs ++ [t] ++ List.replicate (n - k) 0).set (k + sk) v).set (k + sk + 1) ph = hs ++ [v] ++ [ph] ++ List.replicate (n - (k + 1)) 0 := by
      rw [List.append_assoc, List.set_append_right _ _ (by omega), List.set_append_right _ _ (by omega), hhs, Nat.sub_self, show k + sk + 1 - (k + sk) = 1 by omega, show n - k = n - (k + 1) + 1 by omega, List.replicate_succ]
      simp
    rw [e] at h1
    exact h1
  · have e := Nat.mod_add_div p 4294967296
    rw [← hpl, ← hph] at e
    rw [val_take_succ (by omega), hx, pow_split] at *
    rw [val_snoc] at hv ⊢
    rw [val_snoc, List.length_append, List.length_singleton, hhs, Nat.pow_succ]
    rw [hhs] at hv
    have e1 : 4294967296 ^ (k + sk) * (pl + 4294967296 * ph) = 4294967296 ^ (k + sk) * (x * 2 ^ lo) := by rw [e, hp]
    rw [Nat.pow_add] at *
    rw [hvv]
    grind

/-- What raised answers. -/
def RaisedPost (w : World) (n sk lo : Nat) (xs : List Nat) (e : Ending) (w' : World) : Prop :=
  ∃ g l, e = .returned (.slice (some ⟨g, 0, none⟩) (n + sk + 1) (n + sk + 1)) ∧ w.heap.size ≤ g ∧ Own w' g l ∧ l.length = n + sk + 1 ∧ Lim l ∧ val l = val xs * 2 ^ (32 * sk + lo) ∧ Below w.heap.size w w'

set_option maxHeartbeats 1000000 in
theorem raised_any (w : World) (b n c : Nat) (A : Option Addr) (xs : List Nat) (z : Int) (sk lo : Nat) (h : Sl w b A n c xs) (hz0 : 0 ≤ z) (hq : z / 32 = (sk : Int)) (hr : z % 32 = (lo : Int)) (hlo : lo < 32) (hbig : n + sk + 1 ≤ 1099511627776) :
    Calls Tryd.prog 89 #[.slice A n c, .int .i64 z] w (RaisedPost w n sk lo xs) := by
  have H1 := Lib.hid h.len
  have hmk := fun W => run_make32' (n + sk + 1) ((n : Int) + sk + 1) (by omega) (by omega) W
  have hal : Below w.heap.size w (w.alloc (.cells (arr (List.replicate (n + sk + 1) 0)) 51)) := (Below.refl _ _).alloc (Nat.le_refl _) _
  go_enter Tryd.func89, Tryd.ntmps89
  go_wp2
  clear hmk
  go_loopw [22] (fun i wr => ∃ k : Nat, k ≤ n ∧ i = .int .i64 k ∧ RaiseInv (w.alloc (.cells (arr (List.replicate (n + sk + 1) 0)) 51)) w.heap.size n sk lo xs k wr) (fun i _ => n - (intOf i).toNat)
  case atStart =>
    refine ⟨0, Nat.zero_le _, rfl, List.replicate sk 0, 0, by simp, Lim.replicate _, Nat.two_pow_pos lo, ?_, grown_refl _ _, by rw [val_snoc, val_zeros]; simp [val]⟩
    have := Own.new w (List.replicate (n + sk + 1) 0)
    rwa [show n + sk + 1 = sk + 1 + (n - 0) by omega, ← List.replicate_append_replicate, ← List.replicate_append_replicate] at this ⊢
  case round =>
    obtain ⟨k, hk, rfl, hI⟩ := hrel
    have HI := Lib.hid hI
    clear hI
    by_cases hlt : k < n
    · obtain ⟨hs, t, hhs, hsl, ht, hown, hgr, hv⟩ := HI.out
      have hbw := grown_of_new hal hgr
      obtain ⟨o1, rfl, hc1⟩ := (h.below hbw).at (by omega)
      have hcell := hc1 k hlt
      have bx := h.lim.getD k
      have hlen : (hs ++ [t] ++ List.replicate (n - k) 0).length = n + sk + 1 := by simp; omega
      have hcg := hown.cell (i := k + sk) (by omega)
      have e0 : (hs ++ [t] ++ List.replicate (n - k) 0).getD (k + sk) 0 = t := by
        rw [List.append_assoc, List.getD_eq_getElem?_getD, List.getElem?_append_right (by omega), hhs, Nat.sub_self]; rfl
      rw [e0] at hcg
      have hcf := hown.frozen (k + sk)
      have hcg2 := hown.cell (i := k + sk + 1) (by omega)
      have hcf2 := hown.frozen (k + sk + 1)
      obtain ⟨q, hq2⟩ : ∃ q, (hs ++ [t] ++ List.replicate (n - k) 0).getD (k + sk + 1) 0 = q := ⟨_, rfl⟩
      rw [hq2] at hcg2
      obtain ⟨p, pl, ph, v, E1, E2, E3, E4, E5, E6, e1, e2, e3, e4⟩ := raise_nums hlo ht bx
      have HS := Lib.hid (raise_step hlt H1.out hhs hsl hown hgr hv rfl E1.out E2.out E3.out E4.out E5.out E6.out)
      clear hc1 hv hown hgr hhs hsl hlen e0 E1 E2 E3 E4 E5 E6 ht hq2 HI
      revert hcell bx e1
      generalize xs.getD k 0 = x
      intro hcell bx e1
      go_wp2
      go_roundw
      case rel => exact ⟨k + 1, by omega, by go_num, HS.out⟩
      case measure => simp [intOf]; omega
    · have hkn : k = n := by omega
      subst hkn
      obtain ⟨hs, t, hhs, hsl, ht, hown, hgr, hv⟩ := HI.out
      rw [Nat.sub_self, List.replicate_zero, List.append_nil] at hown
      rw [val_take_all (xs := xs) (by rw [H1.out]; omega)] at hv
      have ht' : t < 4294967296 := Nat.lt_of_lt_of_le ht (Nat.pow_le_pow_right (n := 2) (by decide) (show lo ≤ 32 by omega))
      have HP : Hid (RaisedPost w k sk lo xs (.returned (.slice (some ⟨w.heap.size, 0, none⟩) (k + sk + 1) (k + sk + 1))) wr) := ⟨w.heap.size, hs ++ [t], rfl, Nat.le_refl _, hown, by simp; omega, hsl.append (Lim.cons ht' Lim.nil), hv, grown_of_new hal hgr⟩
      clear hown hgr hv hhs hsl ht ht' HI
      go_wp2
      go_ret
      exact HP.out
end Go.Proofs.YteoeoppkefcmdaaDoor

/-
  What nat.Shr does, for all slices of limbs that are not too long for any machine.
-/
namespace Go.Proofs.YteoeoppkefcmdaaDoor
open Go.RowKit
set_option linter.unusedVariables false

/-- A limb of what is moved down. -/
theorem shr_limb {lo d0 d1 R : Nat} (hlo : lo < 32) : (d0 + 4294967296 * (d1 + 4294967296 * R)) / 2 ^ lo % 4294967296 = (d0 + 4294967296 * d1) / 2 ^ lo % 4294967296 := by
  have e : 4294967296 = 2 ^ lo * 2 ^ (32 - lo) := by rw [← Nat.pow_add, show lo + (32 - lo) = 32 by omega]
  have e1 : d0 + 4294967296 * (d1 + 4294967296 * R) = d0 + 4294967296 * d1 + 2 ^ lo * (2 ^ (32 - lo) * R * 4294967296) := by
    have : 2 ^ lo * (2 ^ (32 - lo) * R * 4294967296) = 4294967296 * (4294967296 * R) := by
      rw [← Nat.mul_assoc, ← Nat.mul_assoc, ← e, Nat.mul_comm (4294967296 * R)]
    rw [this]; omega
  rw [e1, Nat.add_mul_div_left _ _ (Nat.two_pow_pos lo), Nat.add_mul_mod_self_right]

def ShrInv (w : World) (g n sk lo : Nat) (xs : List Nat) (i : Nat) (wr : World) : Prop :=
  ∃ hs : List Nat, hs.length = i ∧ Lim hs ∧ Own wr g (hs ++ List.replicate (n - i) 0) ∧ w.grownBy wr (some g) ∧ val hs = val (xs.drop sk) / 2 ^ lo % 4294967296 ^ i

theorem val_drop_div {xs : List Nat} (hl : Lim xs) (k : Nat) : val (xs.drop k) = val xs / 4294967296 ^ k := by
  rcases Nat.lt_or_ge xs.length k with h | h
  · rw [List.drop_eq_nil_of_le (by omega), Nat.div_eq_of_lt]
    · rfl
    · exact Nat.lt_of_lt_of_le (val_lt hl) (Nat.pow_le_pow_right (by decide) (by omega))
  · rw [val_take_drop xs h, Nat.add_mul_div_left _ _ (Nat.pow_pos (by decide)), Nat.div_eq_of_lt, Nat.zero_add]
    have := val_lt (hl.take k)
    rwa [List.length_take, Nat.min_eq_left h] at this

theorem shr_step {w wr : World} {g n sk lo k d0 d1 v : Nat} {xs hs : List Nat} (hlo : lo < 32) (hl : Lim xs) (hn : xs.length = sk + n) (hk : k < n) (hhs : hs.length = k) (hsl : Lim hs) (hown : Own wr g (hs ++ List.replicate (n - k) 0)) (hgr : w.grownBy wr (some g))
    (hv : val hs = val (xs.drop sk) / 2 ^ lo % 4294967296 ^ k) (h0 : xs.getD (k + sk) 0 = d0) (h1 : xs.getD (k + sk + 1) 0 = d1) (hv2 : v = (d0 + 4294967296 * d1) / 2 ^ lo % 4294967296) :
    ShrInv w g n sk lo xs (k + 1) (wr.setCell ⟨g, k, none⟩ (.int .u32 (v : Int))) := by
  have bv : v < 4294967296 := by rw [hv2]; exact Nat.mod_lt _ (by decide)
  refine ⟨hs ++ [v], by simp; omega, hsl.append (Lim.cons bv Lim.nil), ?_, grown_set hgr _, ?_⟩
  · have h2 := hown.set k v
    have e : (hs ++ List.replicate (n - k) 0).set k v = hs ++ [v] ++ List.replicate (n - (k + 1)) 0 := by
      rw [List.set_append_right _ _ (by omega), hhs, Nat.sub_self, show n - k = n - (k + 1) + 1 by omega, List.replicate_succ]
      simp
    rwa [e] at h2
  · rw [val_snoc, hv, hhs, Nat.mod_pow_succ]
    congr 2
    rw [Nat.div_div_eq_div_mul, Nat.mul_comm (2 ^ lo), ← Nat.div_div_eq_div_mul, ← val_drop_div (hl.drop sk), List.drop_drop, val_drop (by omega), show sk + k = k + sk by omega, h0, hv2]
    rcases Nat.lt_or_ge (k + sk + 1) xs.length with h | h
    · rw [val_drop h, h1, shr_limb hlo]
    · rw [List.drop_eq_nil_of_le h, show d1 = 0 by rw [← h1]; exact getD_beyond h]
      rfl

/-- The numbers of a round. -/
theorem shr_nums {d0 d1 lo : Nat} (h0 : d0 < 4294967296) (h1 : d1 < 4294967296) :
    ∃ p v u : Nat, Hid (v = (d0 + 4294967296 * d1) / 2 ^ lo % 4294967296) ∧ bits BinOp.or IntKind.u64 (d0 : Int) ((d1 : Int) * 4294967296) = p ∧ (p : Int) / 2 ^ lo = u ∧ (u : Int) % 4294967296 = v := by
  refine ⟨d0 + 4294967296 * d1, (d0 + 4294967296 * d1) / 2 ^ lo % 4294967296, (d0 + 4294967296 * d1) / 2 ^ lo, rfl, ?_, ?_, ?_⟩
  · have := u64_or_nat d0 (d1 * 4294967296) (by omega) (by omega)
    rw [Nat.or_comm, nat_join 32 _ _ (by omega) h0] at this
    have e : d1 * 4294967296 + d0 = d0 + 4294967296 * d1 := by omega
    rw [e] at this
    simpa using this
  · simp
  · simp

set_option maxHeartbeats 1000000 in
theorem shr_core (w : World) (b n c : Nat) (A : Option Addr) (xs : List Nat) (z : Int) (sk lo : Nat) (h : Sl w b A (sk + n) c xs) (hz0 : 1 ≤ z) (hq : z / 32 = (sk : Int)) (hr : z % 32 = (lo : Int)) (hlo : lo < 32) (hn : 0 < n) :
    Calls Tryd.prog 41 #[.slice A (sk + n) c, .int .i64 z] w (Ret1 w (limbs (val (xs.drop sk) / 2 ^ lo))) := by
  have H1 := Lib.hid h.len
  have hbig := h.big
  have hmk := fun W => run_make32' n ((sk : Int) + n - sk) (by omega) (by omega) W
  have hal : Below w.heap.size w (w.alloc (.cells (arr (List.replicate n 0)) 51)) := (Below.refl _ _).alloc (Nat.le_refl _) _
  go_enter Tryd.func41, Tryd.ntmps41
  go_wp2
  clear hmk
  go_loopw [29] (fun i wr => ∃ k : Nat, k ≤ n ∧ i = .int .i64 k ∧ ShrInv (w.alloc (.cells (arr (List.replicate n 0)) 51)) w.heap.size n sk lo xs k wr) (fun i _ => n - (intOf i).toNat)
  case atStart => exact ⟨0, Nat.zero_le _, rfl, [], rfl, Lim.nil, Own.new w _, grown_refl _ _, by rw [Nat.pow_zero, Nat.mod_one]; rfl⟩
  case round =>
    obtain ⟨k, hk, rfl, hI⟩ := hrel
    have HI := Lib.hid hI
    clear hI
    by_cases hlt : k < n
    · obtain ⟨hs, hhs, hsl, hown, hgr, hv⟩ := HI.out
      have hbw := grown_of_new hal hgr
      obtain ⟨o1, rfl, hc1⟩ := (h.below hbw).at (by omega)
      have hcell := hc1 (k + sk) (by omega)
      have b0 := h.lim.getD (k + sk)
      have b1 := h.lim.getD (k + sk + 1)
      have hlen : (hs ++ List.replicate (n - k) 0).length = n := by simp; omega
      have hcg := hown.cell (i := k) (by omega)
      have hcf := hown.frozen k
      obtain ⟨q, hq2⟩ : ∃ q, (hs ++ List.replicate (n - k) 0).getD k 0 = q := ⟨_, rfl⟩
      rw [hq2] at hcg
      have HS := Lib.hid (fun v d1 hd => shr_step (v := v) (d1 := d1) hlo h.lim H1.out hlt hhs hsl hown hgr hv rfl hd)
      by_cases hmore : k + sk + 1 < sk + n
      · have hcell2 := hc1 (k + sk + 1) hmore
        have HS' := Lib.hid (fun v => HS.out v _ rfl)
        clear HS hc1 hv hown hgr hhs hsl hlen hq2 HI
        revert hcell hcell2 b0 b1 HS'
        generalize xs.getD (k + sk) 0 = d0
        generalize xs.getD (k + sk + 1) 0 = d1
        intro hcell b0 b1 hcell2 HS'
        obtain ⟨p, v, u, HV, e1, e2, e3⟩ := shr_nums (lo := lo) b0 b1
        have HS2 := Lib.hid (HS'.out v HV.out)
        clear HS' HV
        go_wp2
        go_roundw
        case rel => exact ⟨k + 1, by omega, by go_num, HS2.out⟩
        case measure => simp [intOf]; omega
      · have HS' := Lib.hid (fun v => HS.out v 0 (getD_beyond (by rw [H1.out]; omega)))
        clear HS hc1 hv hown hgr hhs hsl hlen hq2 HI b1
        revert hcell b0 HS'
        generalize xs.getD (k + sk) 0 = d0
        intro hcell b0 HS'
        obtain ⟨u, e2⟩ : ∃ u : Nat, (d0 : Int) / 2 ^ lo = u := ⟨d0 / 2 ^ lo, by simp⟩
        obtain ⟨v, e3⟩ : ∃ v : Nat, (u : Int) % 4294967296 = v := ⟨u % 4294967296, by simp⟩
        have HS2 := Lib.hid (HS'.out v (by
          have a : d0 / 2 ^ lo = u := by
            have : ((d0 / 2 ^ lo : Nat) : Int) = u := by simpa using e2
            omega
          rw [Nat.mul_zero, Nat.add_zero, a]; omega))
        clear HS'
        go_wp2
        go_roundw
        case rel => exact ⟨k + 1, by omega, by go_num, HS2.out⟩
        case measure => simp [intOf]; omega
    · have hkn : k = n := by omega
      subst hkn
      obtain ⟨hs, hhs, hsl, hown, hgr, hv⟩ := HI.out
      rw [Nat.sub_self, List.replicate_zero, List.append_nil] at hown
      have hS := hown.all hsl (by omega) (c := k) (by omega)
      rw [hhs] at hS
      have hlt2 : val (xs.drop sk) / 2 ^ lo < 4294967296 ^ k := by
        have := val_lt (h.lim.drop sk)
        rw [List.length_drop, H1.out, show sk + k - sk = k by omega] at this
        exact Nat.lt_of_le_of_lt (Nat.div_le_self _ _) this
      rw [Nat.mod_eq_of_lt hlt2] at hv
      have HV := Lib.hid hv
      have HB := Lib.hid (grown_of_new hal hgr)
      clear hown hgr hv hhs hsl hlt2 HI
      go_wp2_with (go_at_call 67; ((with_reducible refine (trim_any wr w.heap.size _ k k hs hS).mono ?_); rintro e w4 ⟨g4, A4, c4, rfl, hm4, hb4⟩))
      go_ret
      rw [HV.out] at hm4
      rw [HV.out]
      exact Ret1.of hm4 hb4 HB.out

set_option maxHeartbeats 400000 in
theorem shr_low (w : World) (b : Nat) (A : Option Addr) (n c : Nat) (xs : List Nat) (z : Int) (h : Sl w b A n c xs) (hz : z < 1) :
    Calls Tryd.prog 41 #[.slice A n c, .int .i64 z] w (Ret1 w (limbs (val xs))) := by
  have HT := Lib.hid (trim_any w b A n c xs h)
  go_enter Tryd.func41, Tryd.ntmps41
  go_wp2_with (go_at_call 67; ((with_reducible refine HT.out.mono ?_); rintro e w4 ⟨g4, A4, c4, rfl, hm4, hb4⟩))
  go_ret
  exact ⟨g4, A4, c4, rfl, hm4, hb4⟩

set_option maxHeartbeats 400000 in
theorem shr_all (w : World) (A : Option Addr) (n c : Nat) (z : Int) (hz : 1 ≤ z) (hz2 : z ≤ 9223372036854775807) (hn : (n : Int) ≤ z / 32) (hb : n ≤ 1099511627776) :
    Calls Tryd.prog 41 #[.slice A n c, .int .i64 z] w (Ret1 w []) := by
  go_enter Tryd.func41, Tryd.ntmps41
  go_wp2
  go_ret
  exact ⟨0, none, 0, rfl, ⟨Sl.nil, fun h => absurd h (by decide)⟩, Below.refl _ _⟩

/-- Any number of bits, moved down. -/
theorem shr_any (w : World) (b : Nat) (A : Option Addr) (n c : Nat) (xs : List Nat) (z : Int) (h : Sl w b A n c xs) (hz2 : z ≤ 9223372036854775807) :
    Calls Tryd.prog 41 #[.slice A n c, .int .i64 z] w (Ret1 w (limbs (val xs / 2 ^ z.toNat))) := by
  by_cases h0 : z < 1
  · rw [show z.toNat = 0 by omega, Nat.pow_zero, Nat.div_one]
    exact shr_low w b A n c xs z h h0
  · have ez : z.toNat = 32 * (z / 32).toNat + (z % 32).toNat := by omega
    rw [ez, pow_split, ← Nat.div_div_eq_div_mul, ← val_drop_div h.lim]
    by_cases h1 : (n : Int) ≤ z / 32
    · rw [List.drop_eq_nil_of_le (by rw [h.len]; omega), show limbs (val [] / 2 ^ (z % 32).toNat) = [] by rw [val_nil, Nat.zero_div, limbs_zero]]
      exact shr_all w A n c z (by omega) hz2 h1 h.big
    · obtain ⟨m, hm⟩ : ∃ m, n = (z / 32).toNat + m := ⟨n - (z / 32).toNat, by omega⟩
      subst hm
      exact shr_core w b m c A xs z (z / 32).toNat (z % 32).toNat h (by omega) (by omega) (by omega) (by omega) (by omega)
end Go.Proofs.YteoeoppkefcmdaaDoor

/-
  What nat.divLong does: long division, digit by digit.
-/
namespace Go.Proofs.YteoeoppkefcmdaaDoor
open Go.RowKit
set_option linter.unusedVariables false

/-- What raised answers where fewer than 32 bits are moved. -/
def Raised0 (w : World) (n up : Nat) (xs : List Nat) (e : Ending) (w' : World) : Prop :=
  ∃ g l, e = .returned (.slice (some ⟨g, 0, none⟩) (n + 1) (n + 1)) ∧ w.heap.size ≤ g ∧ Own w' g l ∧ l.length = n + 1 ∧ Lim l ∧ val l = val xs * 2 ^ up ∧ Below w.heap.size w w'

theorem raised0_any (w : World) (b n c : Nat) (A : Option Addr) (xs : List Nat) (up : Nat) (h : Sl w b A n c xs) (hlo : up < 32) (hbig : n + 1 ≤ 1099511627776) :
    Calls Tryd.prog 89 #[.slice A n c, .int .i64 (up : Int)] w (Raised0 w n up xs) := by
  refine (raised_any w b n c A xs (up : Int) 0 up h (by omega) (by omega) (by omega) hlo (by omega)).mono ?_
  rintro e w' ⟨g, l, h1, h2, h3, h4, h5, h6, h7⟩
  exact ⟨g, l, h1, h2, h3, h4, h5, by rw [h6]; simp, h7⟩

def LongInv (w : World) (g1 g2 g3 m n V R0 : Nat) (l2 : List Nat) (k : Nat) (wr : World) : Prop :=
  ∃ hs L : List Nat, hs.length = k ∧ Lim hs ∧ L.length = m + n + 1 ∧ Lim L ∧ Own wr g1 L ∧ Own wr g2 l2 ∧ Own wr g3 (List.replicate (m + 1 - k) 0 ++ hs) ∧ Below w.heap.size w wr ∧
    val hs * 4294967296 ^ (m + 1 - k) * V + val L = R0 ∧ val (L.drop (m + 1 - k)) < V

/-- The highest limbs of the rest are nought, so the part that a digit is taken from is all that is above it. -/
theorem long_seg {L : List Nat} {m n V k : Nat} (hL : L.length = m + n + 1) (hl : Lim L) (hk : k ≤ m) (hV : V < 4294967296 ^ n) (h : val (L.drop (m + 1 - k)) < V) :
    val ((L.drop (m - k)).take (n + 1)) = val (L.drop (m - k)) ∧ val (L.drop (m - k)) < V * 4294967296 := by
  have e1 : val (L.drop (m - k)) = L.getD (m - k) 0 + 4294967296 * val (L.drop (m + 1 - k)) := by
    rw [val_drop (by omega), show m - k + 1 = m + 1 - k by omega]
  have b1 := hl.getD (m - k)
  have h1 : val (L.drop (m - k)) < V * 4294967296 := by
    have := Nat.mul_le_mul_left 4294967296 (show val (L.drop (m + 1 - k)) + 1 ≤ V from h)
    omega
  refine ⟨?_, h1⟩
  have h2 := val_take_drop (L.drop (m - k)) (k := n + 1) (by simp; omega)
  have h3 : V * 4294967296 ≤ 4294967296 ^ (n + 1) := by
    rw [Nat.pow_succ]
    exact Nat.mul_le_mul_right _ (by omega)
  rcases Nat.eq_zero_or_pos (val ((L.drop (m - k)).drop (n + 1))) with e | e
  · rw [e] at h2; omega
  · have := Nat.le_mul_of_pos_right (4294967296 ^ (n + 1)) e
    omega

theorem long_step {w wr w' : World} {g1 g2 g3 m n V R0 k : Nat} {l2 hs L zs : List Nat} (hhs : hs.length = k) (hsl : Lim hs) (hL : L.length = m + n + 1) (hl : Lim L) (o2 : Own wr g2 l2) (o3 : Own wr g3 (List.replicate (m + 1 - k) 0 ++ hs)) (hb : Below w.heap.size w wr)
    (hv : val hs * 4294967296 ^ (m + 1 - k) * V + val L = R0) (hd : val (L.drop (m + 1 - k)) < V) (hk : k ≤ m) (hV : V < 4294967296 ^ n) (n12 : g1 ≠ g2) (n13 : g1 ≠ g3) (n23 : g2 ≠ g3) (hg1 : w.heap.size ≤ g1) (hg3 : w.heap.size ≤ g3)
    (hz : zs.length = n + 1) (ht : Turned wr g1 (m - k) L zs w') (hzv : val zs = val ((L.drop (m - k)).take (n + 1)) % V) :
    LongInv w g1 g2 g3 m n V R0 l2 (k + 1) (w'.setCell ⟨g3, m - k, none⟩ (.int .u32 ((val ((L.drop (m - k)).take (n + 1)) / V : Nat) : Int))) := by
  obtain ⟨s1, s2⟩ := long_seg hL hl hk hV hd
  have hV0 : 0 < V := by omega
  have hD : val ((L.drop (m - k)).take (n + 1)) / V < 4294967296 := by
    rw [s1, Nat.div_lt_iff_lt_mul hV0, Nat.mul_comm]; exact s2
  have hds := div_split (val ((L.drop (m - k)).take (n + 1))) V
  have hz0 := Nat.mod_lt (val ((L.drop (m - k)).take (n + 1))) hV0
  rw [← hzv] at hds hz0
  have b' : Below w.heap.size w w' := hb.trans (below_grown ht.2.1 hg1 hb.size)
  have e0 : val (L.drop (m - k + (n + 1))) = 0 := by
    have h2 := val_take_drop (L.drop (m - k)) (k := n + 1) (by simp; omega)
    rw [s1, List.drop_drop] at h2
    rcases Nat.eq_zero_or_pos (val (L.drop (m - k + (n + 1)))) with e | e
    · exact e
    · have := Nat.mul_pos (show 0 < 4294967296 ^ (n + 1) from Nat.pow_pos (by decide)) e
      omega
  have em : (mid L (m - k) zs).drop (m - k) = zs ++ L.drop (m - k + (n + 1)) := by
    have e : (L.take (m - k)).length = m - k := by simp; omega
    unfold mid
    rw [List.append_assoc, List.drop_append, List.drop_eq_nil_of_le (by omega), e, Nat.sub_self, hz]
    simp
  have ev : val ((mid L (m - k) zs).drop (m - k)) = val zs := by rw [em, val_append, e0]; simp
  have hmk : m + 1 - (k + 1) = m - k := by omega
  generalize hDD : val ((L.drop (m - k)).take (n + 1)) / V = D at *
  refine ⟨D :: hs, mid L (m - k) zs, by simp; omega, Lim.cons hD hsl, by rw [mid_length (by omega)]; exact hL, mid_lim hl ht.2.2, ht.1.far (by simpa using n13) _, (o2.grown ht.2.1 (by simpa using n12.symm)).far (by simpa using n23) _, ?_, b'.setCell (by simpa using hg3) _, ?_, ?_⟩
  · have h3 := (o3.grown ht.2.1 (by simpa using n13.symm)).set (m - k) D
    have e : (List.replicate (m + 1 - k) 0 ++ hs).set (m - k) D = List.replicate (m + 1 - (k + 1)) 0 ++ (D :: hs) := by
      rw [show m + 1 - k = m + 1 - (k + 1) + 1 by omega, ← List.replicate_append_replicate, List.append_assoc, List.set_append_right _ _ (by simp), List.length_replicate, show m - k - (m + 1 - (k + 1)) = 0 by omega]
      simp
    rwa [e] at h3
  · have a1 := val_take_drop L (k := m - k) (by omega)
    have a2 := val_take_drop (mid L (m - k) zs) (k := m - k) (by rw [mid_length (by omega)]; omega)
    rw [mid_take (by omega), ev] at a2
    rw [hmk, val_cons]
    rw [show m + 1 - k = m - k + 1 by omega, Nat.pow_succ] at hv
    rw [s1] at hds
    rw [a1, ← hds] at hv
    rw [a2, ← hv]
    grind
  · rw [hmk, ev]; exact hz0

/-- A number, raised till its highest limb's highest bit is set, has no limb more. -/
theorem up_val {ys : List Nat} {n x up : Nat} (hl : ys.length = n) (hn : 0 < n) (hlim : Lim ys) (hx : ys.getD (n - 1) 0 = x) (hup : up = 32 - blen x) : val ys * 2 ^ up < 4294967296 ^ n := by
  have h1 := val_take_succ (xs := ys) (k := n - 1) (by omega)
  rw [show n - 1 + 1 = n by omega, val_take_all (by omega), hx] at h1
  have h2 := val_lt (hlim.take (n - 1))
  rw [List.length_take, Nat.min_eq_left (by omega)] at h2
  have hxl : x < 4294967296 := by rw [← hx]; exact hlim.getD _
  have hb := blen_lt x
  have hb2 := blen_mono_le (n := x) (k := 32) hxl
  obtain ⟨k, rfl⟩ : ∃ k, n = k + 1 := ⟨n - 1, by omega⟩
  rw [Nat.add_sub_cancel] at *
  have h3 : val ys < 4294967296 ^ k * 2 ^ blen x := by
    have := Nat.mul_le_mul_left (4294967296 ^ k) (show x + 1 ≤ 2 ^ blen x from hb)
    rw [Nat.mul_add] at this
    omega
  have h4 := Nat.mul_lt_mul_of_pos_right h3 (Nat.two_pow_pos up)
  rw [Nat.mul_assoc, ← Nat.pow_add, show blen x + up = 32 by omega] at h4
  rw [Nat.pow_succ]
  exact h4

theorem up_lt {x : Nat} (h0 : x ≠ 0) : 32 - blen x < 32 := by
  have h1 := blen_lt x
  have h3 : blen x ≠ 0 := fun e => by rw [e] at h1; simp at h1; exact h0 h1
  omega

/-- At the start the highest limbs are less than the divisor. -/
theorem long_start {xs ys L : List Nat} {m n up : Nat} (hxl : xs.length = m + n) (hxs : Lim xs) (hyl : ys.length = n) (hn : 0 < n) (hy : ys.getD (n - 1) 0 ≠ 0) (hL : Lim L) (hv : val L = val xs * 2 ^ up) : val (L.drop (m + 1)) < val ys * 2 ^ up := by
  rw [val_drop_div hL, hv, Nat.div_lt_iff_lt_mul (Nat.pow_pos (by decide))]
  have h1 := val_lt hxs
  rw [hxl] at h1
  have h2 := val_take_succ (xs := ys) (k := n - 1) (by omega)
  rw [show n - 1 + 1 = n by omega, val_take_all (by omega)] at h2
  have h3 : 4294967296 ^ (n - 1) ≤ val ys := by
    have := Nat.le_mul_of_pos_right (4294967296 ^ (n - 1)) (Nat.pos_of_ne_zero hy)
    omega
  have h4 : 4294967296 ^ (m + n) ≤ val ys * 4294967296 ^ (m + 1) := by
    have := Nat.mul_le_mul_right (4294967296 ^ (m + 1)) h3
    rwa [← Nat.pow_add, show n - 1 + (m + 1) = m + n by omega] at this
  have h5 := Nat.mul_lt_mul_of_pos_right (Nat.lt_of_lt_of_le h1 h4) (Nat.two_pow_pos up)
  rw [Nat.mul_right_comm]
  exact h5

theorem top_ne {ds : List Nat} {n : Nat} (hl : ds.length = n) (hn : 0 < n) (hlim : Lim ds) (h : 4294967296 ^ (n - 1) ≤ val ds) : ds.getD (n - 1) 0 ≠ 0 := by
  intro e
  have h1 := val_take_succ (xs := ds) (k := n - 1) (by omega)
  rw [show n - 1 + 1 = n by omega, val_take_all (by omega), e] at h1
  have h2 := val_lt (hlim.take (n - 1))
  rw [List.length_take, Nat.min_eq_left (by omega)] at h2
  omega

theorem top_ge {ys : List Nat} {n : Nat} (hl : ys.length = n) (hn : 0 < n) (hy : ys.getD (n - 1) 0 ≠ 0) : 4294967296 ^ (n - 1) ≤ val ys := by
  have h2 := val_take_succ (xs := ys) (k := n - 1) (by omega)
  rw [show n - 1 + 1 = n by omega, val_take_all (by omega)] at h2
  have := Nat.le_mul_of_pos_right (4294967296 ^ (n - 1)) (Nat.pos_of_ne_zero hy)
  omega

/-- The divisor's limbs, raised, but for the highest one, which is nought. -/
theorem div_limbs {l2 ys : List Nat} {n up : Nat} (hl2 : l2.length = n + 1) (hm2 : Lim l2) (hv2 : val l2 = val ys * 2 ^ up) (hV : val ys * 2 ^ up < 4294967296 ^ n) : val (l2.take n) = val ys * 2 ^ up := by
  have h := val_take_drop l2 (k := n) (by omega)
  rw [hv2] at h
  rcases Nat.eq_zero_or_pos (val (l2.drop n)) with e | e
  · rw [e] at h; omega
  · have := Nat.le_mul_of_pos_right (4294967296 ^ n) e
    omega

/-- What holds before the first digit. -/
theorem long_init {w w1 w2 : World} {g1 g2 m n up : Nat} {l1 l2 xs ys : List Nat} (hb1 : Below w.heap.size w w1) (hb2 : Below w1.heap.size w1 w2) (o1 : Own w1 g1 l1) (o2 : Own w2 g2 l2) (hl1 : l1.length = m + n + 1) (hm1 : Lim l1) (hv1 : val l1 = val xs * 2 ^ up)
    (hs : val (l1.drop (m + 1)) < val ys * 2 ^ up) :
    LongInv w g1 g2 w2.heap.size m n (val ys * 2 ^ up) (val xs * 2 ^ up) l2 0 (w2.alloc (.cells (arr (List.replicate (m + 1) 0)) 51)) :=
  ⟨[], l1, rfl, Lim.nil, hl1, hm1, (o1.below hb2 o1.lt).alloc _, o2.alloc _, by rw [List.append_nil]; exact Own.new w2 _, (hb1.trans (hb2.mono hb1.size)).alloc (Nat.le_trans hb1.size hb2.size) _, by rw [hv1]; simp [val], hs⟩

/-- What a digit leaves. -/
theorem long_post {w wr w' : World} {g1 g2 g3 m n V R0 k : Nat} {l2 hs L : List Nat} {e : Ending} (hhs : hs.length = k) (hsl : Lim hs) (hL : L.length = m + n + 1) (hl : Lim L) (o2 : Own wr g2 l2) (o3 : Own wr g3 (List.replicate (m + 1 - k) 0 ++ hs)) (hb : Below w.heap.size w wr)
    (hv : val hs * 4294967296 ^ (m + 1 - k) * V + val L = R0) (hd : val (L.drop (m + 1 - k)) < V) (hk : k ≤ m) (hV : V < 4294967296 ^ n) (n12 : g1 ≠ g2) (n13 : g1 ≠ g3) (n23 : g2 ≠ g3) (hg1 : w.heap.size ≤ g1) (hg3 : w.heap.size ≤ g3)
    (h : DigitPost wr g1 (m - k) (n + 1) L (val ((L.drop (m - k)).take (n + 1))) V e w') :
    ∃ D q : Nat, e = .returned (.int .u32 (D : Int)) ∧ w'.cell? ⟨g3, m - k, none⟩ = some (.int .u32 (q : Int)) ∧ w'.frozen? ⟨g3, m - k, none⟩ = false ∧ Hid (LongInv w g1 g2 g3 m n V R0 l2 (k + 1) (w'.setCell ⟨g3, m - k, none⟩ (.int .u32 (D : Int)))) := by
  obtain ⟨rfl, zs, hz, ht, hzv⟩ := h
  have o3' := o3.grown ht.2.1 (by simpa using n13.symm)
  exact ⟨_, _, rfl, o3'.cell (by simp; omega), o3'.frozen _, long_step hhs hsl hL hl o2 o3 hb hv hd hk hV n12 n13 n23 hg1 hg3 hz ht hzv⟩

/-- What is there behind the last digit. -/
theorem long_done {hs L xs ys : List Nat} {up : Nat} (hv : val hs * (val ys * 2 ^ up) + val L = val xs * 2 ^ up) (hd : val L < val ys * 2 ^ up) : val hs = val xs / val ys ∧ val L / 2 ^ up = val xs % val ys := by
  have hp := Nat.two_pow_pos up
  have hV : 0 < val ys * 2 ^ up := by omega
  have h1 : val xs * 2 ^ up / (val ys * 2 ^ up) = val hs := by
    rw [← hv, Nat.mul_comm (val hs), Nat.mul_add_div hV, Nat.div_eq_of_lt hd, Nat.add_zero]
  have h2 : val xs * 2 ^ up % (val ys * 2 ^ up) = val L := by
    rw [← hv, Nat.mul_comm (val hs), Nat.mul_add_mod, Nat.mod_eq_of_lt hd]
  rw [Nat.mul_div_mul_right _ _ hp] at h1
  rw [Nat.mul_mod_mul_right] at h2
  exact ⟨h1.symm, by rw [← h2, Nat.mul_div_cancel _ hp]⟩

theorem take_small {L : List Nat} {n m V : Nat} (hL : L.length = m + n + 1) (h : val L < V) (hV : V < 4294967296 ^ n) : val (L.take n) = val L := by
  have h1 := val_take_drop L (k := n) (by omega)
  rcases Nat.eq_zero_or_pos (val (L.drop n)) with e | e
  · rw [e] at h1; omega
  · have := Nat.le_mul_of_pos_right (4294967296 ^ n) e
    omega

end Go.Proofs.YteoeoppkefcmdaaDoor

/-
  What nat.Div does, for all slices of limbs that are not too long for any machine.
-/
namespace Go.Proofs.YteoeoppkefcmdaaDoor
open Go.RowKit
set_option linter.unusedVariables false

/-- A quotient, what is left, and true. -/
def Ret3 (w : World) (lq lr : List Nat) (e : Ending) (w' : World) : Prop :=
  ∃ A1 c1 A2 c2, e = .returned (.tuple #[.slice A1 lq.length c1, .slice A2 lr.length c2, .bool true]) ∧ Out w' lq A1 c1 ∧ Out w' lr A2 c2 ∧ Below w.heap.size w w'

end Go.Proofs.YteoeoppkefcmdaaDoor

/-
  What nat.Mul does, for all slices of limbs that are not too long for any machine.
-/
namespace Go.Proofs.YteoeoppkefcmdaaDoor
open Go.RowKit
set_option linter.unusedVariables false

/-- A block that holds the first i rounds' sum, and noughts behind it. -/
def MulsInv (w : World) (g p q : Nat) (la lb : List Nat) (i : Nat) (wr : World) : Prop :=
  ∃ hs : List Nat, hs.length = i + q ∧ Lim hs ∧ Own wr g (hs ++ List.replicate (p - i) 0) ∧ w.grownBy wr (some g) ∧ val hs = val (la.take i) * val lb

/-- One round of a product. -/
theorem mul_round {w wr w3 : World} {g p q k x : Nat} {la lb : List Nat} {hs : List Nat} {e : Ending} (hhs : hs.length = k + q) (hsl : Lim hs) (hown : Own wr g (hs ++ List.replicate (p - k) 0)) (hgr : w.grownBy wr (some g)) (hv : val hs = val (la.take k) * val lb)
    (hk : k < p) (hx : la.getD k 0 = x) (hla : la.length = p) (hp : MulPost wr.drew g k q (hs ++ List.replicate (p - k) 0) lb x e w3) :
    ∃ cy : Nat, e = .returned (.int .u32 (cy : Int)) ∧ w3.cell? ⟨g, k + q, none⟩ = some (.int .u32 0) ∧ w3.frozen? ⟨g, k + q, none⟩ = false ∧
      Hid (MulsInv w g p q la lb (k + 1) (w3.setCell ⟨g, k + q, none⟩ (.int .u32 (cy : Int)))) := by
  obtain ⟨cy, rfl, zs, hz, ht, hcy, hv2⟩ := hp
  have hlen : (hs ++ List.replicate (p - k) 0).length = q + p := by simp; omega
  have hcell := ht.cell (by omega)
  rw [hz] at hcell
  have e0 : (hs ++ List.replicate (p - k) 0).getD (k + q) 0 = 0 := by
    rw [List.getD_eq_getElem?_getD, List.getElem?_append_right (by omega), hhs, Nat.sub_self, List.getElem?_replicate]
    split <;> rfl
  rw [e0] at hcell
  refine ⟨cy, rfl, hcell, ht.1.frozen _, hs.take k ++ zs ++ [cy], by simp; omega, ((hsl.take k).append ht.2.2).append (Lim.cons hcy Lim.nil), ?_, ?_, ?_⟩
  · have h1 := ht.1.set (k + q) cy
    rw [← hz, mid_set (by omega)] at h1
    have e1 : mid (hs ++ List.replicate (p - k) 0) k (zs ++ [cy]) = hs.take k ++ zs ++ [cy] ++ List.replicate (p - (k + 1)) 0 := by
      unfold mid
      rw [List.take_append_of_le_length (by omega), List.drop_append, List.drop_eq_nil_of_le (by simp; omega), List.drop_replicate, List.length_append, hz, hhs]
      simp
      omega
    rw [e1, hz] at h1
    exact h1
  · have := grown_trans hgr (grown_trans (grown_drew (grown_refl wr (some g))) ht.2.1)
    exact grown_set this _
  · have e2 : ((hs ++ List.replicate (p - k) 0).drop k).take q = hs.drop k := by
      rw [List.drop_append_of_le_length (by omega), List.take_append_of_le_length (by simp; omega), List.take_of_length_le (by simp; omega)]
    rw [e2] at hv2
    have e3 := val_take_drop hs (k := k) (by omega)
    have e4 : (hs.take k ++ zs).length = k + q := by simp; omega
    have e5 : (hs.take k).length = k := by simp; omega
    rw [val_snoc, val_append, e4, e5, val_take_succ (by omega), hx, Nat.add_mul, ← hv, e3, Nat.pow_add]
    have e6 : 4294967296 ^ k * (val zs + cy * 4294967296 ^ q) = 4294967296 ^ k * (val (hs.drop k) + x * val lb) := by rw [hv2]
    grind

set_option maxHeartbeats 1000000 in
theorem mul_core (w : World) (b1 b2 : Nat) (A1 A2 : Option Addr) (n m c1 c2 p q : Nat) (la lb : List Nat) (h1 : Sl w b1 A1 p c1 la) (h2 : Sl w b2 A2 q c2 lb)
    (HC1 : Hid (Calls Tryd.prog 76 #[.slice A1 n c1] w fun e w' => e = .returned (.slice A1 p c1) ∧ w = w'))
    (HC2 : Hid (Calls Tryd.prog 76 #[.slice A2 m c2] w fun e w' => e = .returned (.slice A2 q c2) ∧ w = w'))
    (hp : p ≤ 549755813888) (hq : q ≤ 549755813888) :
    Calls Tryd.prog 72 #[.slice A1 n c1, .slice A2 m c2] w (Ret1 w (limbs (val la * val lb))) := by
  have H1 := Lib.hid h1.len
  have H2 := Lib.hid h2.len
  have hmk := fun W => run_make32' (p + q) ((p : Int) + q) (by omega) (by omega) W
  have hal : Below w.heap.size w (w.alloc (.cells (arr (List.replicate (p + q) 0)) 51)) := (Below.refl _ _).alloc (Nat.le_refl _) _
  go_enter Tryd.func72, Tryd.ntmps72
  go_wp2_with (first
    | (go_at_call 76; ((with_reducible refine HC1.out.mono ?_); rintro e w' ⟨rfl, rfl⟩))
    | (go_at_call 76; ((with_reducible refine HC2.out.mono ?_); rintro e w' ⟨rfl, rfl⟩)))
  clear HC1 HC2 hmk
  go_loopw [19] (fun i wr => ∃ k : Nat, k ≤ p ∧ i = .int .i64 k ∧ MulsInv (w.alloc (.cells (arr (List.replicate (p + q) 0)) 51)) w.heap.size p q la lb k wr) (fun i _ => p - (intOf i).toNat)
  case atStart => exact ⟨0, Nat.zero_le _, rfl, List.replicate q 0, by simp, Lim.replicate _, by have := Own.new w (List.replicate (p + q) 0); rw [List.replicate_append_replicate, Nat.sub_zero, Nat.add_comm q p]; exact this, grown_refl _ _, by rw [val_zeros]; simp [val]⟩
  case round =>
    obtain ⟨k, hk, rfl, hI⟩ := hrel
    have HI := Lib.hid hI
    clear hI
    by_cases hlt : k < p
    · obtain ⟨hs, hhs, hsl, hown, hgr, hv⟩ := HI.out
      have hbw := grown_of_new hal hgr
      have hsl1 := h1.below hbw
      have hsl2 := h2.below hbw
      obtain ⟨o1, rfl, hc1⟩ := hsl1.at (by omega)
      have hcell := hc1 k hlt
      have bx := h1.lim.getD k
      have hlen : (hs ++ List.replicate (p - k) 0).length = q + p := by simp; omega
      have HA := Lib.hid ((addTimes_any wr.drew w.heap.size k q (p + q - k) b2 c2 (la.getD k 0) A2 (hs ++ List.replicate (p - k) 0) lb hown (hsl.append (Lim.replicate _)) (by omega) (by omega) hsl2 (fun h => by have := h2.lt h; omega) bx).mono
        fun e w3 h3 => mul_round hhs hsl hown hgr hv hlt rfl H1.out h3)
      clear hown hsl hhs hgr hv hc1 hbw hlen hsl1 hsl2
      revert hcell HA
      generalize la.getD k 0 = x
      intro hcell HA
      have hcap : ¬ (p + q = k) := by omega
      have hs3 : (k : Int) + q ≤ (p : Int) + q := by omega
      have hs4 : (0 : Int) ≤ (k : Int) + q := by omega
      have hs5 : (k : Int) ≤ (k : Int) + q := by omega
      have hs2 : ((k : Int) + q).toNat = k + q := by omega
      have hs1 : IntKind.i64.wrap ((k : Int) + q) = (k : Int) + q := IntWalk.i64_in _ (by omega)
      go_wp2
      go_region_with ((go_at_call 88; ((with_reducible refine HA.out.mono ?_); (rintro e w3 ⟨cy, rfl, hc3, hf3, H3⟩))))
      clear hs1 hs2 hs3 hs4 hs5
      go_wp2
      go_roundw
      case rel => exact ⟨k + 1, by omega, by go_num, H3.out⟩
      case measure => simp [intOf]; omega
    · have hkp : k = p := by omega
      subst hkp
      obtain ⟨hs, hhs, hsl, hown, hgr, hv⟩ := HI.out
      rw [Nat.sub_self, List.replicate_zero, List.append_nil] at hown
      rw [val_take_all (xs := la) (by rw [H1.out]; omega)] at hv
      have hS := hown.all hsl (by omega) (c := k + q) (by omega)
      rw [hhs] at hS
      have HV := Lib.hid hv
      have HB := Lib.hid (grown_of_new hal hgr)
      clear hown hgr hv hhs hsl
      go_wp2_with (go_at_call 67; ((with_reducible refine (trim_any wr w.heap.size _ (k + q) (k + q) hs hS).mono ?_); rintro e w4 ⟨g4, A4, c4, rfl, hm4, hb4⟩))
      go_ret
      rw [HV.out] at hm4
      rw [HV.out]
      exact Ret1.of hm4 hb4 HB.out

theorem mul_any (w : World) (b1 b2 : Nat) (A1 A2 : Option Addr) (n m c1 c2 : Nat) (xs ys : List Nat) (h1 : Sl w b1 A1 n c1 xs) (h2 : Sl w b2 A2 m c2 ys) (hn : n ≤ 549755813888) (hm : m ≤ 549755813888) :
    Calls Tryd.prog 72 #[.slice A1 n c1, .slice A2 m c2] w (Ret1 w (limbs (val xs * val ys))) := by
  have := mul_core w b1 b2 A1 A2 n m c1 c2 _ _ _ _ (cut_sl h1) (cut_sl h2) (cut_any w b1 A1 n c1 xs h1) (cut_any w b2 A2 m c2 ys h2)
    (by have := val_limbs_le h1.lim; have := h1.len; omega) (by have := val_limbs_le h2.lim; have := h2.len; omega)
  rwa [val_limbs, val_limbs] at this
end Go.Proofs.YteoeoppkefcmdaaDoor

/-
  What the functions of package nat do, said of numbers: a slice reads as a number; what is answered is trim. For slices of at most 2^30 limbs.
-/
namespace Go.Proofs.YteoeoppkefcmdaaDoor
open Go.RowKit
set_option linter.unusedVariables false

/-- A slice reads as the number v. -/
def Rd (w : World) (A : Option Addr) (n c v : Nat) : Prop := ∃ b xs, Sl w b A n c xs ∧ val xs = v
/-- A slice is the trim limbs of the number v. -/
def Nm (w : World) (A : Option Addr) (n c v : Nat) : Prop := ∃ b, Sl w b A n c (limbs v)

theorem Nm.rd {w : World} {A : Option Addr} {n c v : Nat} (h : Nm w A n c v) : Rd w A n c v := by
  obtain ⟨b, h⟩ := h
  exact ⟨b, _, h, val_limbs v⟩
theorem Rd.below {w w' : World} {A : Option Addr} {n c v : Nat} (h : Rd w A n c v) (hb : Below w.heap.size w w') : Rd w' A n c v := by
  obtain ⟨b, xs, h, e⟩ := h
  exact ⟨b, xs, h.below hb, e⟩
theorem Nm.below {w w' : World} {A : Option Addr} {n c v : Nat} (h : Nm w A n c v) (hb : Below w.heap.size w w') : Nm w' A n c v := by
  obtain ⟨b, h⟩ := h
  exact ⟨b, h.below hb⟩
theorem Nm.len {w : World} {A : Option Addr} {n c v : Nat} (h : Nm w A n c v) : (limbs v).length = n := by
  obtain ⟨b, h⟩ := h
  exact h.len
theorem Nm.zero {w : World} : Nm w none 0 0 0 := ⟨0, by rw [limbs_zero]; exact Sl.nil⟩
theorem Rd.bound {w : World} {A : Option Addr} {n c v : Nat} (h : Rd w A n c v) : v < 4294967296 ^ n := by
  obtain ⟨b, xs, h, rfl⟩ := h
  have := val_lt h.lim
  rwa [h.len] at this
theorem Rd.big {w : World} {A : Option Addr} {n c v : Nat} (h : Rd w A n c v) : n ≤ 1099511627776 := by
  obtain ⟨b, xs, h, rfl⟩ := h
  exact h.big
theorem Rd.limbs_le {w : World} {A : Option Addr} {n c v : Nat} (h : Rd w A n c v) : (limbs v).length ≤ n := limbs_length_le h.bound
theorem Rd.blen_le {w : World} {A : Option Addr} {n c v : Nat} (h : Rd w A n c v) : blen v ≤ n * 32 := by
  apply blen_mono_le
  rw [← pow32]
  exact h.bound
theorem Made.nm {w w' : World} {v g c : Nat} {A : Option Addr} (h : Made w w' (limbs v) g A c) : Nm w' A (limbs v).length c v := ⟨g, h.1⟩
theorem Out.nm {w' : World} {v c : Nat} {A : Option Addr} (h : Out w' (limbs v) A c) : Nm w' A (limbs v).length c v := h

def P1 (w : World) (K v : Nat) (e : Ending) (w' : World) : Prop := ∃ A n c, e = .returned (.slice A n c) ∧ Nm w' A n c v ∧ n ≤ K ∧ Below w.heap.size w w'
def P1T (w : World) (K v : Nat) (e : Ending) (w' : World) : Prop := ∃ A n c, e = .returned (.tuple #[.slice A n c, .bool true]) ∧ Nm w' A n c v ∧ n ≤ K ∧ Below w.heap.size w w'
def P1B (w : World) (K v : Nat) (t : Bool) (e : Ending) (w' : World) : Prop := ∃ A n c, e = .returned (.tuple #[.slice A n c, .bool t]) ∧ Nm w' A n c v ∧ n ≤ K ∧ Below w.heap.size w w'
def P3 (w : World) (K q r : Nat) (e : Ending) (w' : World) : Prop :=
  ∃ A1 n1 c1 A2 n2 c2, e = .returned (.tuple #[.slice A1 n1 c1, .slice A2 n2 c2, .bool true]) ∧ Nm w' A1 n1 c1 q ∧ Nm w' A2 n2 c2 r ∧ n1 ≤ K ∧ n2 ≤ K ∧ Below w.heap.size w w'
def PI (w : World) (z : Int) (e : Ending) (w' : World) : Prop := e = .returned (.int .i64 z) ∧ Below w.heap.size w w'

theorem limbs_add_len {a b n m : Nat} (ha : a < 4294967296 ^ n) (hb : b < 4294967296 ^ m) : (limbs (a + b)).length ≤ n + m + 1 := by
  apply limbs_length_le
  have h1 := Nat.pow_le_pow_right (n := 4294967296) (by decide) (show n ≤ n + m by omega)
  have h2 := Nat.pow_le_pow_right (n := 4294967296) (by decide) (show m ≤ n + m by omega)
  rw [Nat.pow_succ]
  omega
theorem limbs_mul_len {a b n m : Nat} (ha : a < 4294967296 ^ n) (hb : b < 4294967296 ^ m) : (limbs (a * b)).length ≤ n + m := by
  apply limbs_length_le
  rw [Nat.pow_add]
  exact Nat.mul_lt_mul'' ha hb

section
variable {w : World} {A1 A2 : Option Addr} {n m c1 c2 a b : Nat}

theorem vTrim (h1 : Rd w A1 n c1 a) : Calls Tryd.prog 67 #[.slice A1 n c1] w (P1 w n a) := by
  have hl := h1.limbs_le
  obtain ⟨b1, xs, h1, rfl⟩ := h1
  refine (trim_any w b1 A1 n c1 xs h1).mono ?_
  rintro e w' ⟨g, A, c, rfl, hm, hb⟩
  exact ⟨A, _, c, rfl, hm.nm, hl, hb⟩

theorem vAdd (h1 : Rd w A1 n c1 a) (h2 : Rd w A2 m c2 b) (hn : n ≤ 1073741824) (hm : m ≤ 1073741824) : Calls Tryd.prog 57 #[.slice A1 n c1, .slice A2 m c2] w (P1 w (n + m + 1) (a + b)) := by
  have hl := limbs_add_len h1.bound h2.bound
  obtain ⟨b1, xs, h1, rfl⟩ := h1
  obtain ⟨b2, ys, h2, rfl⟩ := h2
  refine (add_any w b1 b2 A1 A2 n m c1 c2 xs ys h1 h2 (by omega) (by omega)).mono ?_
  rintro e w' ⟨g, A, c, rfl, hm, hb⟩
  exact ⟨A, _, c, rfl, hm.nm, hl, hb⟩

theorem vMul (h1 : Rd w A1 n c1 a) (h2 : Rd w A2 m c2 b) (hn : n ≤ 1073741824) (hm : m ≤ 1073741824) : Calls Tryd.prog 72 #[.slice A1 n c1, .slice A2 m c2] w (P1 w (n + m) (a * b)) := by
  have hl := limbs_mul_len h1.bound h2.bound
  obtain ⟨b1, xs, h1, rfl⟩ := h1
  obtain ⟨b2, ys, h2, rfl⟩ := h2
  refine (mul_any w b1 b2 A1 A2 n m c1 c2 xs ys h1 h2 (by omega) (by omega)).mono ?_
  rintro e w' ⟨g, A, c, rfl, hm, hb⟩
  exact ⟨A, _, c, rfl, hm.nm, hl, hb⟩

theorem vSub (h1 : Rd w A1 n c1 a) (h2 : Rd w A2 m c2 b) (h : b ≤ a) : Calls Tryd.prog 81 #[.slice A1 n c1, .slice A2 m c2] w (P1T w n (a - b)) := by
  have hl := Nat.le_trans (limbs_length_mono (Nat.sub_le a b)) h1.limbs_le
  obtain ⟨b1, xs, h1, rfl⟩ := h1
  obtain ⟨b2, ys, h2, rfl⟩ := h2
  refine (sub_ge w b1 b2 A1 A2 n m c1 c2 xs ys h1 h2 h).mono ?_
  rintro e w' ⟨g, A, c, rfl, hm, hb⟩
  exact ⟨A, _, c, rfl, hm.nm, hl, hb⟩

theorem vSub_lt (h1 : Rd w A1 n c1 a) (h2 : Rd w A2 m c2 b) (h : a < b) : Calls Tryd.prog 81 #[.slice A1 n c1, .slice A2 m c2] w fun e w' => e = .returned (.tuple #[.slice none 0 0, .bool false]) ∧ Below w.heap.size w w' := by
  obtain ⟨b1, xs, h1, rfl⟩ := h1
  obtain ⟨b2, ys, h2, rfl⟩ := h2
  refine (sub_lt w b1 b2 A1 A2 n m c1 c2 xs ys h1 h2 h).mono ?_
  rintro e w' ⟨rfl, q, rfl⟩
  exact ⟨rfl, below_drewN (Below.refl _ _) q⟩

theorem vCmp (h1 : Rd w A1 n c1 a) (h2 : Rd w A2 m c2 b) : Calls Tryd.prog 80 #[.slice A1 n c1, .slice A2 m c2] w (PI w (cmpI a b)) := by
  obtain ⟨b1, xs, h1, rfl⟩ := h1
  obtain ⟨b2, ys, h2, rfl⟩ := h2
  refine (cmp_any w b1 b2 A1 A2 n m c1 c2 xs ys h1 h2).mono ?_
  rintro e w' ⟨rfl, q, rfl⟩
  exact ⟨rfl, below_drewN (Below.refl _ _) q⟩

theorem vShr (z : Int) (h1 : Rd w A1 n c1 a) (hz : z ≤ 9223372036854775807) : Calls Tryd.prog 41 #[.slice A1 n c1, .int .i64 z] w (P1 w n (a / 2 ^ z.toNat)) := by
  have hl := Nat.le_trans (limbs_length_mono (Nat.div_le_self a (2 ^ z.toNat))) h1.limbs_le
  obtain ⟨b1, xs, h1, rfl⟩ := h1
  refine (shr_any w b1 A1 n c1 xs z h1 hz).mono ?_
  rintro e w' ⟨g, A, c, rfl, hm, hb⟩
  exact ⟨A, _, c, rfl, hm.nm, hl, hb⟩


theorem vAddE {r : Nat} (h1 : Rd w A1 n c1 a) (h2 : Rd w A2 m c2 b) (hn : n ≤ 1073741824) (hm : m ≤ 1073741824) (hr : a + b = r) : Calls Tryd.prog 57 #[.slice A1 n c1, .slice A2 m c2] w (P1 w (n + m + 1) r) := hr ▸ vAdd h1 h2 hn hm
theorem vMulE {r : Nat} (h1 : Rd w A1 n c1 a) (h2 : Rd w A2 m c2 b) (hn : n ≤ 1073741824) (hm : m ≤ 1073741824) (hr : a * b = r) : Calls Tryd.prog 72 #[.slice A1 n c1, .slice A2 m c2] w (P1 w (n + m) r) := hr ▸ vMul h1 h2 hn hm
theorem vSubE {r : Nat} (h1 : Rd w A1 n c1 a) (h2 : Rd w A2 m c2 b) (h : b ≤ a) (hr : a - b = r) : Calls Tryd.prog 81 #[.slice A1 n c1, .slice A2 m c2] w (P1T w n r) := hr ▸ vSub h1 h2 h
theorem vCmpE {z : Int} (h1 : Rd w A1 n c1 a) (h2 : Rd w A2 m c2 b) (hz : cmpI (a : Int) (b : Int) = z) : Calls Tryd.prog 80 #[.slice A1 n c1, .slice A2 m c2] w (PI w z) := hz ▸ vCmp h1 h2
theorem vShrE {z : Int} {r : Nat} (h1 : Rd w A1 n c1 a) (hz : z ≤ 9223372036854775807) (hr : a / 2 ^ z.toNat = r) : Calls Tryd.prog 41 #[.slice A1 n c1, .int .i64 z] w (P1 w n r) := hr ▸ vShr z h1 hz
theorem vShrN {s r : Nat} (h1 : Rd w A1 n c1 a) (hs : s ≤ 9223372036854775807) (hr : a / 2 ^ s = r) : Calls Tryd.prog 41 #[.slice A1 n c1, .int .i64 (s : Int)] w (P1 w n r) :=
  vShrE h1 (by omega) (by rw [Int.toNat_natCast]; exact hr)
end

theorem one_rd (W : World) : Rd (W.alloc (.cells #[.int .u32 1] 51)) (some ⟨W.heap.size, 0, none⟩) 1 1 1 := ⟨_, _, one_limb W, by simp [val]⟩
end Go.Proofs.YteoeoppkefcmdaaDoor

/-
  Words for whole numbers: a sign and a slice of limbs that read as an integer; what a call answers that answers one. No Go function.
-/
namespace Go.Proofs.YteoeoppkefcmdaaDoor
open Go.RowKit
set_option linter.unusedVariables false

/-- The number of a sign and a number. -/
def sg (s : Bool) (a : Nat) : Int := if s then -(a : Int) else a
theorem sg_true (a : Nat) : sg true a = -(a : Int) := rfl
theorem sg_false (a : Nat) : sg false a = a := rfl
theorem sg_natAbs (s : Bool) (a : Nat) : (sg s a).natAbs = a := by cases s <;> simp [sg]
theorem sg_zero (s : Bool) : sg s 0 = 0 := by cases s <;> rfl
theorem sg_lt (s : Bool) (a : Nat) : decide (sg s a < 0) = (s && decide (0 < a)) := by cases s <;> simp [sg] <;> omega

/-- A sign and a slice read as the integer z. -/
def Wr (w : World) (s : Bool) (A : Option Addr) (n c : Nat) (z : Int) : Prop := ∃ a, Rd w A n c a ∧ sg s a = z
/-- A sign and a slice are just the limbs and the sign that the integer z has. -/
def Wn (w : World) (s : Bool) (A : Option Addr) (n c : Nat) (z : Int) : Prop := Nm w A n c z.natAbs ∧ s = decide (z < 0)

theorem Wn.wr {w : World} {s : Bool} {A : Option Addr} {n c : Nat} {z : Int} (h : Wn w s A n c z) : Wr w s A n c z := by
  obtain ⟨h, rfl⟩ := h
  refine ⟨_, h.rd, ?_⟩
  by_cases e : z < 0
  · simp [sg, e]; omega
  · simp [sg, e]; omega
theorem Wr.below {w w' : World} {s : Bool} {A : Option Addr} {n c : Nat} {z : Int} (h : Wr w s A n c z) (hb : Below w.heap.size w w') : Wr w' s A n c z := by
  obtain ⟨a, h, e⟩ := h
  exact ⟨a, h.below hb, e⟩
theorem Wn.below {w w' : World} {s : Bool} {A : Option Addr} {n c : Nat} {z : Int} (h : Wn w s A n c z) (hb : Below w.heap.size w w') : Wn w' s A n c z := ⟨h.1.below hb, h.2⟩
theorem Wr.rd {w : World} {s : Bool} {A : Option Addr} {n c : Nat} {z : Int} (h : Wr w s A n c z) : Rd w A n c z.natAbs := by
  obtain ⟨a, h, rfl⟩ := h
  rw [sg_natAbs]
  exact h
theorem Wr.eq {w : World} {s : Bool} {A : Option Addr} {n c : Nat} {z : Int} (h : Wr w s A n c z) : sg s z.natAbs = z := by
  obtain ⟨a, h, rfl⟩ := h
  rw [sg_natAbs]
theorem Rd.wr {w : World} {A : Option Addr} {n c a : Nat} (s : Bool) (h : Rd w A n c a) : Wr w s A n c (sg s a) := ⟨a, h, rfl⟩
theorem Nm.pos {w : World} {A : Option Addr} {n c v : Nat} (h : Nm w A n c v) : 0 < n ↔ 0 < v := by
  have hl := h.len
  by_cases e : v = 0
  · subst e; rw [limbs_zero] at hl; simp at hl; omega
  · rw [limbs_pos e] at hl; simp at hl; omega
theorem Nm.wn {w : World} {A : Option Addr} {n c a : Nat} (s : Bool) (h : Nm w A n c a) : Wn w (s && decide (0 < n)) A n c (sg s a) := by
  refine ⟨by rw [sg_natAbs]; exact h, ?_⟩
  rw [sg_lt]
  congr 1
  exact decide_eq_decide.2 h.pos
theorem Wn.zero {w : World} : Wn w false none 0 0 0 := ⟨Nm.zero, rfl⟩

/-- The call answers the whole number z, of at most K limbs. -/
def W1 (w : World) (K : Nat) (z : Int) (e : Ending) (w' : World) : Prop := ∃ s A n c, e = .returned (.agg #[.bool s, .slice A n c]) ∧ Wn w' s A n c z ∧ n ≤ K ∧ Below w.heap.size w w'
def PB (w : World) (t : Bool) (e : Ending) (w' : World) : Prop := e = .returned (.bool t) ∧ Below w.heap.size w w'
def PIB (w : World) (z : Int) (t : Bool) (e : Ending) (w' : World) : Prop := e = .returned (.tuple #[.int .i64 z, .bool t]) ∧ Below w.heap.size w w'

theorem ret_bool {a b : Bool} (h : a = b) : Ending.returned (.bool a) = .returned (.bool b) := by rw [h]
/-- What was there reads as it did. -/
theorem bcell {W w1 : World} (hb : Below W.heap.size W w1) : (∀ b o, b < W.heap.size → w1.cell? ⟨b, o, none⟩ = W.cell? ⟨b, o, none⟩) ∧ (∀ b o, b < W.heap.size → w1.frozen? ⟨b, o, none⟩ = W.frozen? ⟨b, o, none⟩) :=
  ⟨fun b o h => hb.cell (p := ⟨b, o, none⟩) h, fun b o h => hb.frozen (p := ⟨b, o, none⟩) h⟩
theorem bel1 (w : World) (a : Obj) : Below w.heap.size w (w.alloc a) := alloc_below _ _
theorem bel2 (w : World) (a b : Obj) : Below w.heap.size w ((w.alloc a).alloc b) := (bel1 w a).alloc (by simp) _
theorem bel3 (w : World) (a b c : Obj) : Below w.heap.size w (((w.alloc a).alloc b).alloc c) := (bel2 w a b).alloc (by simp; omega) _
theorem bel4 (w : World) (a b c d : Obj) : Below w.heap.size w ((((w.alloc a).alloc b).alloc c).alloc d) := (bel3 w a b c).alloc (by simp; omega) _
theorem bt {w w1 w2 : World} (h : Below w.heap.size w w1) (k : Below w1.heap.size w1 w2) : Below w.heap.size w w2 := h.trans (k.mono h.size)
/-- A struct of two cells, stored where nothing was before. -/
theorem st2 {B : Nat} {a w : World} (h : Below B a w) {b o1 o2 : Nat} (hp : B ≤ b) (u v : Value) : Below B a ((w.setCell ⟨b, o1, none⟩ u).setCell ⟨b, o2, none⟩ v) := (h.setCell (p := ⟨b, o1, none⟩) hp u).setCell (p := ⟨b, o2, none⟩) hp v

/-- Block g is just one whole number, its sign and its slice, none frozen. -/
def Bx (w : World) (g : Nat) (s : Bool) (A : Option Addr) (n c : Nat) : Prop := w.heap[g]? = some (.cells #[.bool s, .slice A n c] 24 (0, 0))
section
variable {w w' : World} {g : Nat} {s : Bool} {A : Option Addr} {n c : Nat}
theorem Bx.lt (h : Bx w g s A n c) : g < w.heap.size := by
  rcases Nat.lt_or_ge g w.heap.size with hlt | hge
  · exact hlt
  · unfold Bx at h; rw [Array.getElem?_eq_none hge] at h; cases h
theorem Bx.keep (h : Bx w g s A n c) (hk : w'.heap[g]? = w.heap[g]?) : Bx w' g s A n c := hk.trans h
theorem Bx.below (h : Bx w g s A n c) (hb : Below w.heap.size w w') : Bx w' g s A n c := h.keep (hb.block g h.lt)
theorem Bx.new (w : World) (s : Bool) (A : Option Addr) (n c : Nat) : Bx (w.alloc (.cells #[.bool s, .slice A n c] 24)) w.heap.size s A n c := heap_alloc_new w _
theorem Bx.newAt (w : World) {g : Nat} (hg : w.heap.size = g) (s : Bool) (A : Option Addr) (n c : Nat) : Bx (w.alloc (.cells #[.bool s, .slice A n c] 24)) g s A n c := hg ▸ heap_alloc_new w _
theorem Bx.cell0 (h : Bx w g s A n c) : w.cell? ⟨g, 0, none⟩ = some (.bool s) := by rw [cell_of_row w g 0 _ _ (0, 0) h]; rfl
theorem Bx.cell1 (h : Bx w g s A n c) : w.cell? ⟨g, 1, none⟩ = some (.slice A n c) := by rw [cell_of_row w g 1 _ _ (0, 0) h]; rfl
theorem Bx.frozen (h : Bx w g s A n c) (i : Nat) : w.frozen? ⟨g, i, none⟩ = false := by
  unfold Bx at h
  simp [World.frozen?, h]
theorem Bx.no32 (h : Bx w g s A n c) {o : Nat} {x : Int} (hc : w.cell? ⟨g, o, none⟩ = some (.int .u32 x)) : False := by
  rw [cell_of_row w g o _ _ (0, 0) h] at hc
  match o, hc with
  | 0, hc => simp at hc
  | 1, hc => simp at hc
  | k + 2, hc => simp at hc
theorem Bx.set (h : Bx w g s A n c) (s' : Bool) (A' : Option Addr) (n' c' : Nat) : Bx ((w.setCell ⟨g, 0, none⟩ (.bool s')).setCell ⟨g, 1, none⟩ (.slice A' n' c')) g s' A' n' c' := by
  unfold Bx at h ⊢
  simp [World.setCell, Array.getElem?_modify, h]
theorem heap_st2 (w : World) {g k o1 o2 : Nat} (h : k ≠ g) (u v : Value) : ((w.setCell ⟨g, o1, none⟩ u).setCell ⟨g, o2, none⟩ v).heap[k]? = w.heap[k]? := by
  rw [Below.heap_setCell _ _ _ _ h, Below.heap_setCell _ _ _ _ h]
theorem Bx.far (h : Bx w g s A n c) {k : Nat} (hk : g ≠ k) (u v : Value) : Bx ((w.setCell ⟨k, 0, none⟩ u).setCell ⟨k, 1, none⟩ v) g s A n c := h.keep (heap_st2 w hk u v)
theorem sl_st {b : Nat} {B : Option Addr} {m d : Nat} {xs : List Nat} (h : Sl w b B m d xs) (X : Bx w g s A n c) (u v : Value) : Sl ((w.setCell ⟨g, 0, none⟩ u).setCell ⟨g, 1, none⟩ v) b B m d xs :=
  h.keep fun hm => heap_st2 w (fun e => by
    obtain ⟨o, _, hc⟩ := h.at hm
    have := hc 0 hm
    rw [e] at this
    exact X.no32 this) u v
theorem Nm.st {B : Option Addr} {m d a : Nat} (h : Nm w B m d a) (X : Bx w g s A n c) (u v : Value) : Nm ((w.setCell ⟨g, 0, none⟩ u).setCell ⟨g, 1, none⟩ v) B m d a := by
  obtain ⟨b, h⟩ := h
  exact ⟨b, sl_st h X u v⟩
theorem Rd.st {B : Option Addr} {m d a : Nat} (h : Rd w B m d a) (X : Bx w g s A n c) (u v : Value) : Rd ((w.setCell ⟨g, 0, none⟩ u).setCell ⟨g, 1, none⟩ v) B m d a := by
  obtain ⟨b, xs, h, e⟩ := h
  exact ⟨b, xs, sl_st h X u v, e⟩
theorem Wn.st {t : Bool} {B : Option Addr} {m d : Nat} {z : Int} (h : Wn w t B m d z) (X : Bx w g s A n c) (u v : Value) : Wn ((w.setCell ⟨g, 0, none⟩ u).setCell ⟨g, 1, none⟩ v) t B m d z := ⟨h.1.st X u v, h.2⟩
theorem Wr.st {t : Bool} {B : Option Addr} {m d : Nat} {z : Int} (h : Wr w t B m d z) (X : Bx w g s A n c) (u v : Value) : Wr ((w.setCell ⟨g, 0, none⟩ u).setCell ⟨g, 1, none⟩ v) t B m d z := by
  obtain ⟨a, h, e⟩ := h
  exact ⟨a, h.st X u v, e⟩
theorem Bx.drew (h : Bx w g s A n c) : Bx w.drew g s A n c := h
theorem Nm.drew {a : Nat} (h : Nm w A n c a) : Nm w.drew A n c a := h
theorem Rd.drew {a : Nat} (h : Rd w A n c a) : Rd w.drew A n c a := h
theorem Wn.drew {z : Int} (h : Wn w s A n c z) : Wn w.drew s A n c z := h
theorem Wr.drew {z : Int} (h : Wr w s A n c z) : Wr w.drew s A n c z := h
end
end Go.Proofs.YteoeoppkefcmdaaDoor

/-
  Words for boxes: a block of the call's own that is one struct, whatever its cells, and what a store into it leaves. No Go function.
-/
namespace Go.Proofs.YteoeoppkefcmdaaDoor
open Go.RowKit
set_option linter.unusedVariables false

/-- Block g is just the cells cs, none frozen. -/
def Bo (w : World) (g : Nat) (cs : Array Value) (T : TypeId) : Prop := w.heap[g]? = some (.cells cs T (0, 0))
/-- No cell is a limb. -/
def no32 (v : Value) : Bool := match v with
  | .int .u32 _ => false
  | _ => true
section
variable {w w' : World} {g : Nat} {cs : Array Value} {T : TypeId}
theorem Bo.lt (h : Bo w g cs T) : g < w.heap.size := by
  rcases Nat.lt_or_ge g w.heap.size with hlt | hge
  · exact hlt
  · unfold Bo at h; rw [Array.getElem?_eq_none hge] at h; cases h
theorem Bo.keep (h : Bo w g cs T) (hk : w'.heap[g]? = w.heap[g]?) : Bo w' g cs T := hk.trans h
theorem Bo.below (h : Bo w g cs T) (hb : Below w.heap.size w w') : Bo w' g cs T := h.keep (hb.block g h.lt)
theorem Bo.drew (h : Bo w g cs T) : Bo w.drew g cs T := h
theorem Bo.new (w : World) (cs : Array Value) (T : TypeId) : Bo (w.alloc (.cells cs T)) w.heap.size cs T := heap_alloc_new w _
theorem Bo.newAt (w : World) {g : Nat} (hg : w.heap.size = g) (cs : Array Value) (T : TypeId) : Bo (w.alloc (.cells cs T)) g cs T := hg ▸ heap_alloc_new w _
theorem Bo.cell (h : Bo w g cs T) (i : Nat) : w.cell? ⟨g, i, none⟩ = cs[i]? := by rw [cell_of_row w g i _ _ (0, 0) h]
theorem Bo.frozen (h : Bo w g cs T) (i : Nat) : w.frozen? ⟨g, i, none⟩ = false := by
  unfold Bo at h
  simp [World.frozen?, h]
theorem Bo.set (h : Bo w g cs T) (i : Nat) (v : Value) : Bo (w.setCell ⟨g, i, none⟩ v) g (cs.setIfInBounds i v) T := by
  unfold Bo at h ⊢
  simp [World.setCell, Array.getElem?_modify, h]
theorem Bo.far (h : Bo w g cs T) {k : Nat} (hk : g ≠ k) (i : Nat) (v : Value) : Bo (w.setCell ⟨k, i, none⟩ v) g cs T := h.keep (Below.heap_setCell w _ _ _ hk)
theorem Bo.no (h : Bo w g cs T) (hn : cs.all no32 = true) {o : Nat} {x : Int} (hc : w.cell? ⟨g, o, none⟩ = some (.int .u32 x)) : False := by
  rw [h.cell] at hc
  rw [Array.all_eq_true] at hn
  obtain ⟨hlt, he⟩ := Array.getElem?_eq_some_iff.1 hc
  have := hn o hlt
  rw [he] at this
  cases this
theorem sl_store {b : Nat} {B : Option Addr} {m d : Nat} {xs : List Nat} (h : Sl w b B m d xs) (X : Bo w g cs T) (hn : cs.all no32 = true) (i : Nat) (v : Value) : Sl (w.setCell ⟨g, i, none⟩ v) b B m d xs :=
  h.keep fun hm => Below.heap_setCell w _ _ _ (fun e => by
    obtain ⟨o, _, hc⟩ := h.at hm
    have := hc 0 hm
    rw [e] at this
    exact X.no hn this)
theorem Nm.store {B : Option Addr} {m d a : Nat} (h : Nm w B m d a) (X : Bo w g cs T) (hn : cs.all no32 = true) (i : Nat) (v : Value) : Nm (w.setCell ⟨g, i, none⟩ v) B m d a := by
  obtain ⟨b, h⟩ := h
  exact ⟨b, sl_store h X hn i v⟩
theorem Rd.store {B : Option Addr} {m d a : Nat} (h : Rd w B m d a) (X : Bo w g cs T) (hn : cs.all no32 = true) (i : Nat) (v : Value) : Rd (w.setCell ⟨g, i, none⟩ v) B m d a := by
  obtain ⟨b, xs, h, e⟩ := h
  exact ⟨b, xs, sl_store h X hn i v, e⟩
theorem Wn.store {s : Bool} {B : Option Addr} {m d : Nat} {z : Int} (h : Wn w s B m d z) (X : Bo w g cs T) (hn : cs.all no32 = true) (i : Nat) (v : Value) : Wn (w.setCell ⟨g, i, none⟩ v) s B m d z := ⟨h.1.store X hn i v, h.2⟩
theorem Wr.store {s : Bool} {B : Option Addr} {m d : Nat} {z : Int} (h : Wr w s B m d z) (X : Bo w g cs T) (hn : cs.all no32 = true) (i : Nat) (v : Value) : Wr (w.setCell ⟨g, i, none⟩ v) s B m d z := by
  obtain ⟨a, h, e⟩ := h
  exact ⟨a, h.store X hn i v, e⟩
theorem below_store {B : Nat} {a : World} (h : Below B a w) {b : Nat} (hp : B ≤ b) (i : Nat) (u : Value) : Below B a (w.setCell ⟨b, i, none⟩ u) := h.setCell (p := ⟨b, i, none⟩) hp u
end
theorem bel5 (w : World) (a b c d e : Obj) : Below w.heap.size w (((((w.alloc a).alloc b).alloc c).alloc d).alloc e) := (bel4 w a b c d).alloc (by simp; omega) _
end Go.Proofs.YteoeoppkefcmdaaDoor

/-
  The joint rule with bundled facts: what each operation of a region leaves is a fact that later memory keeps. No Go text.
-/
namespace Go.Proofs.YteoeoppkefcmdaaDoor.Jo
open Go Go.RowKit
set_option linter.unusedVariables false

/-- What is known of a value, kept while memory only grows. -/
structure Fact where
  P : Value → World → Prop
  keep : ∀ v w w', P v w → Below w.heap.size w w' → P v w'
def Fact.any : Fact := ⟨fun _ _ => True, fun _ _ _ h _ => h⟩
def Fact.eq (u : Value) : Fact := ⟨fun v _ => v = u, fun _ _ _ h _ => h⟩
/-- The value points to a new box of its own. -/
def Fact.bo (lo : Nat) (cs : Array Value) (T : TypeId) : Fact := ⟨fun v w => ∃ g, v = .pointer (some ⟨g, 0, none⟩) ∧ lo ≤ g ∧ Bo w g cs T, fun v w w' h b => by
  obtain ⟨g, e, hl, h⟩ := h
  exact ⟨g, e, hl, h.below b⟩⟩

def putl (vs : Nat → Value) (L : List (Option Tmp × Nat)) (a : Act) : Act := L.foldl (fun a x => a.put x.1 (vs x.2)) a
theorem base_putl (dst : Nat → Option Tmp) (vs : Nat → Value) : ∀ (l : List Nat) (a : Act), base dst vs l a = putl vs (l.map fun j => (dst j, j)) a
  | [], _ => rfl
  | j :: l, a => by rw [base_cons, base_putl dst vs l]; rfl
def dstOf (ds : List (Option Tmp)) (i : Nat) : Option Tmp := ds.getD i none
def depOf (ls : List (List Nat)) (i : Nat) : List Nat := ls.getD i []
def phi (F : List Fact) (i : Nat) (v : Value) (w : World) : Prop := (F.getD i Fact.any).P v w
def Grow (w w' : World) : Prop := Below w.heap.size w w'

section
variable {P : Program} {ops : Array Oper} {Q : Exit → Act → World → Prop} {a0 : Act} {T : List Nat} {ds : List (Option Tmp)} {ls : List (List Nat)} {k : Nat} {F : List Fact} {J : World → Prop}

theorem jcons {i : Nat} {o : Oper} {r : List Nat} {di : Option Tmp} {L : List (Option Tmp × Nat)} {f : Fact} (ho : ops[i]? = some o) (hdi : ds.getD i none = di) (hL : ((ls.getD i []).map fun j => (ds.getD j none, j)) = L) (hf : F.getD i Fact.any = f)
    (h : ∀ vs w, J w → (∀ j ∈ ls.getD i [], phi F j (vs j) w) → ∀ K : Act → World → Prop, Shut (∀ v w', f.P v w' → Grow w w' → K ((putl vs L a0).put di v) w') →
      if Region.wanted o (yielded ops (putl vs L a0).tmps) = true then Oper.wp P o (putl vs L a0) w K Q else K ((putl vs L a0).put o.dst undef) w)
    (hs : Steps P ops Q a0 (dstOf ds) (depOf ls) (phi F) J Grow r) : Steps P ops Q a0 (dstOf ds) (depOf ls) (phi F) J Grow (i :: r) := by
  refine Steps.cons ho (fun vs w hJ hd K hK => ?_) hs
  have e : base (dstOf ds) vs (depOf ls i) a0 = putl vs L a0 := by
    rw [base_putl, ← hL]
    rfl
  rw [e] at hK ⊢
  refine h vs w hJ hd K ?_
  intro v w' h1 h2
  have := hK.out v w' (by unfold phi; rw [hf]; exact h1) h2
  rwa [show dstOf ds i = di from hdi] at this

theorem region_joint {id fuel : Nat} {w : World} {L : List (Option Tmp × Nat)} (hm : P.follows .mixedOrders = true) (hok : ok .any ops T (dstOf ds) (depOf ls) k a0.tmps.size = true) (hnd : T.Nodup)
    (hL : (T.map fun j => (ds.getD j none, j)) = L) (hfu : ops.size - T.length = fuel)
    (hJs : ∀ w w', J w → Grow w w' → J w') (hJ : J w.drew)
    (step : Steps P ops (NoPanic Q) a0 (dstOf ds) (depOf ls) (phi F) J Grow T)
    (fin : ∀ vs w, J w → (∀ j ∈ T, phi F j (vs j) w) → wpAny P .any ops (NoPanic Q) fuel (mark T ops.size) (putl vs L a0) w) :
    (Code.region id ops true).wp P Q a0 w := by
  refine wp_region_noPanic ?_
  refine wp_region_joint (T := T) (dst := dstOf ds) (D := depOf ls) (k := k) (Φ := phi F) (J := J) (St := Grow) hm hok hnd (fun _ _ _ _ h => h) (fun i _ v w w' h b => (F.getD i Fact.any).keep v w w' h b) hJs hJ step ?_
  intro vs w hJ hd
  have e : base (dstOf ds) vs T a0 = putl vs L a0 := by
    rw [base_putl, ← hL]
    rfl
  rw [e, hfu]
  exact fin vs w hJ hd
theorem jdone {listed : Array Bool} {a : Act} {w : World} (hr : Region.ready .any ops listed = []) (h : Q .normal a w) : wpAny P .any ops (NoPanic Q) 0 listed a w := ⟨hr, h⟩
/-- One operation of what is left behind. -/
theorem jnext {i fuel : Nat} {o : Oper} {listed : Array Bool} {a : Act} {w : World} (hr : Region.ready .any ops listed = [i]) (ho : ops[i]? = some o)
    (h : ∀ K : Act → World → Prop, Shut (∀ a w, wpAny P .any ops (NoPanic Q) fuel (listed.setIfInBounds i true) a w → K a w) → if Region.wanted o (yielded ops a.tmps) = true then Oper.wp P o a w K (NoPanic Q) else K (a.put o.dst undef) w) :
    wpAny P .any ops (NoPanic Q) (fuel + 1) listed a w :=
  wpAny_ready hr (by simp) (AllReady.cons ho (fun K hK => h K (fun a w h => hK a w h)) AllReady.nil)
end
end Go.Proofs.YteoeoppkefcmdaaDoor.Jo

/-
  What whole.signed, Make and Neg do.
-/
namespace Go.Proofs.YteoeoppkefcmdaaDoor
open Go.RowKit
set_option linter.unusedVariables false

set_option maxHeartbeats 400000 in
theorem wSigned {w : World} {A : Option Addr} {n c a : Nat} (s : Bool) (h : Nm w A n c a) : Calls Tryd.prog 73 #[.bool s, .slice A n c] w (W1 w n (sg s a)) := by
  have HW := Lib.hid (h.wn s)
  have hbig := h.rd.big
  clear h
  cases s
  · go_enter Tryd.func73, Tryd.ntmps73
    go_wp2
    exact bodyPost_ret (v := .agg #[.bool false, .slice A n c]) (by simp [results, Tryd.results73, go_sem]) rfl ⟨false, A, n, c, rfl, HW.out.below (bel1 _ _), Nat.le_refl _, bel1 _ _⟩
  · by_cases h0 : 0 < n
    · have e : decide (0 < n) = true := by simpa using h0
      go_enter Tryd.func73, Tryd.ntmps73
      go_wp2
      exact bodyPost_ret (v := .agg #[.bool true, .slice A n c]) (by simp [results, Tryd.results73, go_sem]) rfl ⟨true, A, n, c, rfl, by have := HW.out; rw [e] at this; exact this.below (bel1 _ _), Nat.le_refl _, bel1 _ _⟩
    · obtain rfl : n = 0 := by omega
      go_enter Tryd.func73, Tryd.ntmps73
      go_wp2
      exact bodyPost_ret (v := .agg #[.bool false, .slice A 0 c]) (by simp [results, Tryd.results73, go_sem]) rfl ⟨false, A, 0, c, rfl, HW.out.below (bel1 _ _), Nat.le_refl _, bel1 _ _⟩

set_option maxHeartbeats 400000 in
theorem wMake {w : World} {A : Option Addr} {n c a : Nat} (s : Bool) (h : Rd w A n c a) : Calls Tryd.prog 58 #[.bool s, .slice A n c] w (W1 w n (sg s a)) := by
  go_enter Tryd.func58, Tryd.ntmps58
  go_wp2_with (first
    | (go_at_call 67; ((with_reducible refine (vTrim (h.below (bel1 _ _))).mono ?_); rintro e w1 ⟨A1, n1, c1, rfl, h1, k1, B1⟩))
    | (go_at_call 73; ((with_reducible refine (wSigned s h1).mono ?_); rintro e w2 ⟨s2, A2, n2, c2, rfl, h2, k2, B2⟩; obtain ⟨hc, hf⟩ := bcell (bt B1 B2))))
  have X := (Bx.new w false none 0 0).below (bt B1 B2)
  exact bodyPost_ret (v := .agg #[.bool s2, .slice A2 n2 c2]) (by simp [results, Tryd.results58, go_sem, X.cell0, X.cell1]) rfl ⟨s2, A2, n2, c2, rfl, h2.st X _ _, by omega, st2 (bt (bel1 _ _) (bt B1 B2)) (Nat.le_refl _) _ _⟩

set_option maxHeartbeats 400000 in
theorem wNeg {w : World} {A : Option Addr} {n c : Nat} {s : Bool} {z r : Int} (h : Wr w s A n c z) (hr : -z = r) : Calls Tryd.prog 53 #[.agg #[.bool s, .slice A n c]] w (W1 w n r) := by
  obtain ⟨a, h, e⟩ := h
  have HE : Hid (sg (!s) a = r) := Lib.hid (by rw [← hr, ← e]; cases s <;> simp [sg])
  clear hr e
  go_enter Tryd.func53, Tryd.ntmps53
  go_wp2_with (first
    | (go_at_call 58; ((with_reducible refine (wMake _ (h.below (bel2 _ _ _))).mono ?_); rintro e w2 ⟨s2, A2, n2, c2, rfl, h2, k2, B2⟩; obtain ⟨hc, hf⟩ := bcell B2)))
  have X : Bx w2 (w.heap.size + 1) false none 0 0 := (Bx.newAt _ (by simp) false none 0 0).below B2
  exact bodyPost_ret (v := .agg #[.bool s2, .slice A2 n2 c2]) (by simp [results, Tryd.results53, go_sem, X.cell0, X.cell1]) rfl ⟨s2, A2, n2, c2, rfl, HE.out ▸ h2.st X _ _, by omega, st2 (bt (bel2 _ _ _) B2) (by simp) _ _⟩
end Go.Proofs.YteoeoppkefcmdaaDoor

/-
  How many bits a number needs, off its highest limb. Plain arithmetic; no condition.
-/
namespace Go.Proofs.YteoeoppkefcmdaaDoor
set_option linter.unusedVariables false

/-- How many bits a number needs, off its highest limb. -/
theorem blen_limbs {n : Nat} (h : n ≠ 0) : blen n = ((limbs n).length - 1) * 32 + blen ((limbs n).getD ((limbs n).length - 1) 0) := by
  have hl : (limbs n).length ≠ 0 := fun e => h (limbs_length_zero.1 e)
  have hs := val_take_succ (xs := limbs n) (k := (limbs n).length - 1) (by omega)
  rw [show (limbs n).length - 1 + 1 = (limbs n).length by omega, List.take_length, val_limbs] at hs
  have ht := val_lt ((lim_limbs n).take ((limbs n).length - 1))
  rw [List.length_take, Nat.min_eq_left (by omega)] at ht
  have hp : 0 < 4294967296 ^ ((limbs n).length - 1) := Nat.pow_pos (by decide)
  have hlast := limbs_last h
  have hd : n / 4294967296 ^ ((limbs n).length - 1) = (limbs n).getD ((limbs n).length - 1) 0 := by
    have : ∀ p q r, p < 4294967296 ^ ((limbs n).length - 1) → r = p + 4294967296 ^ ((limbs n).length - 1) * q → r / 4294967296 ^ ((limbs n).length - 1) = q := by
      intro p q r hpq e
      rw [e, Nat.add_mul_div_left _ _ hp, Nat.div_eq_of_lt hpq, Nat.zero_add]
    exact this _ _ _ ht hs
  have hge : 4294967296 ^ ((limbs n).length - 1) ≤ n := by
    have := Nat.le_mul_of_pos_right (4294967296 ^ ((limbs n).length - 1)) (Nat.pos_of_ne_zero hlast)
    omega
  rw [pow32] at hd hge
  rw [blen_shift n _ hge, hd]
end Go.Proofs.YteoeoppkefcmdaaDoor

/-
  What nat.Len does, for every slice of limbs.
-/
namespace Go.Proofs.YteoeoppkefcmdaaDoor
open Go.RowKit
set_option linter.unusedVariables false

set_option maxHeartbeats 400000 in
theorem len_core (w : World) (b o n k c x L : Nat) (HC : Hid (Calls Tryd.prog 76 #[.slice (some ⟨b, o, none⟩) n c] w fun e w' => e = .returned (.slice (some ⟨b, o, none⟩) k c) ∧ w = w'))
    (hbig : k ≤ 1099511627776) (hpos : k ≠ 0) (hck : w.cell? ⟨b, o + (k - 1), none⟩ = some (.int .u32 (x : Int))) (hlt : x < 4294967296) (HB : Hid (L = (k - 1) * 32 + blen x)) :
    Calls Tryd.prog 65 #[.slice (some ⟨b, o, none⟩) n c] w fun e w' => e = .returned (.int .i64 (L : Int)) ∧ w = w' := by
  have hx := blen_mono_le (n := x) (k := 32) hlt
  have hk0 : ((k : Int) == 0) = false := by simpa using hpos
  have i1 : ((k : Int) - 1).toNat = k - 1 := by omega
  go_enter Tryd.func65, Tryd.ntmps65
  go_wp2_with (first
    | (go_at_call 76; ((with_reducible refine HC.out.mono ?_); rintro e w' ⟨rfl, rfl⟩))
    | (go_at_call 82; ((with_reducible refine (len32_any x hlt _).mono ?_); rintro e w' ⟨rfl, rfl⟩)))
  go_ret
  have e := HB.out
  exact ⟨ret_int (by omega), rfl⟩

set_option maxHeartbeats 400000 in
theorem len_any (w : World) (b : Nat) (A : Option Addr) (n c : Nat) (xs : List Nat) (h : Sl w b A n c xs) :
    Calls Tryd.prog 65 #[.slice A n c] w fun e w' => e = .returned (.int .i64 (blen (val xs) : Int)) ∧ w = w' := by
  have hle := val_limbs_le h.lim
  have hlen := h.len
  have hsl := h.take (k := (limbs (val xs)).length) (by omega)
  rw [limbs_prefix h.lim] at hsl
  have HC := Lib.hid (cut_any w b A n c xs h)
  have hbig := hsl.big
  by_cases h0 : val xs = 0
  · rw [h0] at HC ⊢
    rw [limbs_zero] at HC
    clear hbig hsl hlen hle h h0
    go_enter Tryd.func65, Tryd.ntmps65
    go_wp2_with (go_at_call 76; ((with_reducible refine HC.out.mono ?_); rintro e w' ⟨rfl, rfl⟩))
    go_ret
    exact ⟨ret_int (by rw [blen_zero]; rfl), rfl⟩
  · have HB := Lib.hid (blen_limbs h0)
    have hpos : (limbs (val xs)).length ≠ 0 := fun e => h0 (limbs_length_zero.1 e)
    obtain ⟨o, rfl, hc⟩ := hsl.at (by omega)
    exact len_core w b o n _ c _ _ HC hbig hpos (hc _ (by omega)) ((lim_limbs (val xs)).getD _) HB
end Go.Proofs.YteoeoppkefcmdaaDoor

/-
  What nat.Len does, said of numbers; and the order of two numbers.
-/
namespace Go.Proofs.YteoeoppkefcmdaaDoor
open Go.RowKit
set_option linter.unusedVariables false

section
variable {w : World} {A1 A2 : Option Addr} {n m c1 c2 a b : Nat}
theorem vLen (h1 : Rd w A1 n c1 a) : Calls Tryd.prog 65 #[.slice A1 n c1] w (PI w (blen a : Nat)) := by
  obtain ⟨b1, xs, h1, rfl⟩ := h1
  refine (len_any w b1 A1 n c1 xs h1).mono ?_
  rintro e w' ⟨rfl, rfl⟩
  exact ⟨rfl, Below.refl _ _⟩

theorem vLenE {z : Int} (h1 : Rd w A1 n c1 a) (hz : ((blen a : Nat) : Int) = z) : Calls Tryd.prog 65 #[.slice A1 n c1] w (PI w z) := hz ▸ vLen h1
end
theorem cmpI_self (a : Nat) : cmpI (a : Int) (a : Int) = 0 := cmpI_eq rfl
theorem cmpI_swap (a b : Nat) : cmpI (a : Int) (b : Int) = -cmpI (b : Int) (a : Int) := by
  rcases Nat.lt_trichotomy a b with h | h | h
  · rw [cmpI_lt (by omega), cmpI_gt (by omega)]
  · subst h; rw [cmpI_self]; rfl
  · rw [cmpI_gt (by omega), cmpI_lt (by omega)]; rfl
theorem cmpI_bd (a b : Int) : -1 ≤ cmpI a b ∧ cmpI a b ≤ 1 := by unfold cmpI; split <;> (try split) <;> omega
theorem blen_eq_zero {a : Nat} : blen a = 0 ↔ a = 0 := by
  constructor
  · intro h
    have := blen_lt a
    rw [h] at this
    simpa using this
  · rintro rfl; rfl
end Go.Proofs.YteoeoppkefcmdaaDoor

/-
  What whole.Sign, Cmp, Same and May do.
-/
namespace Go.Proofs.YteoeoppkefcmdaaDoor
open Go.RowKit
set_option linter.unusedVariables false

theorem sg_cases (s : Bool) (a : Nat) : (a = 0 ∧ cmpI (sg s a) 0 = 0) ∨ (0 < a ∧ s = true ∧ cmpI (sg s a) 0 = -1) ∨ (0 < a ∧ s = false ∧ cmpI (sg s a) 0 = 1) := by
  rcases Nat.eq_zero_or_pos a with e | e
  · subst e; exact .inl ⟨rfl, by rw [sg_zero]; exact cmpI_eq rfl⟩
  · cases s
    · exact .inr (.inr ⟨e, rfl, cmpI_gt (by simp [sg]; omega)⟩)
    · exact .inr (.inl ⟨e, rfl, cmpI_lt (by simp [sg]; omega)⟩)

set_option maxHeartbeats 400000 in
theorem wSign {w : World} {A : Option Addr} {n c : Nat} {s : Bool} {x r : Int} (h : Wr w s A n c x) (hr : cmpI x 0 = r) : Calls Tryd.prog 39 #[.agg #[.bool s, .slice A n c]] w (PI w r) := by
  obtain ⟨a, h, e1⟩ := h
  subst e1
  have hb : blen a ≤ 35184372088832 := by have := h.blen_le; have := h.big; omega
  rcases sg_cases s a with ⟨rfl, e⟩ | ⟨ha, rfl, e⟩ | ⟨ha, rfl, e⟩
  · rw [e] at hr
    subst hr
    clear e hb
    go_enter Tryd.func39, Tryd.ntmps39
    go_wp2_with (first
      | (go_at_call 65; ((with_reducible refine (vLenE (z := 0) (h.below (bel1 _ _)) rfl).mono ?_); rintro e w1 ⟨rfl, B1⟩)))
    go_ret
    exact ⟨rfl, bt (bel1 _ _) B1⟩
  all_goals
    rw [e] at hr
    subst hr
    have hz : ((blen a : Nat) : Int) ≠ 0 := by have := blen_eq_zero (a := a); omega
    have hq : (((blen a : Nat) : Int) == 0) = false := by simpa using hz
    clear e hz
    go_enter Tryd.func39, Tryd.ntmps39
    go_wp2_with (first
      | (go_at_call 65; ((with_reducible refine (vLen (h.below (bel1 _ _))).mono ?_); rintro e w1 ⟨rfl, B1⟩; obtain ⟨hc, hf⟩ := bcell B1)))
    go_ret
    exact ⟨rfl, bt (bel1 _ _) B1⟩

theorem cmp_signs {x y : Int} (h : cmpI x 0 ≠ cmpI y 0) : cmpI (cmpI x 0) (cmpI y 0) = cmpI x y := by
  unfold cmpI at h ⊢
  split <;> split <;> split <;> (try split) <;> (try split) <;> (try split) <;> simp_all <;> omega
theorem cmp_same {s t : Bool} {a b : Nat} (h : cmpI (sg s a) 0 = cmpI (sg t b) 0) : cmpI (sg s a) 0 * cmpI (a : Int) (b : Int) = cmpI (sg s a) (sg t b) := by
  rcases sg_cases s a with ⟨rfl, e⟩ | ⟨ha, rfl, e⟩ | ⟨ha, rfl, e⟩ <;> rcases sg_cases t b with ⟨rfl, e'⟩ | ⟨hb, rfl, e'⟩ | ⟨hb, rfl, e'⟩ <;> rw [e, e'] at h <;> first | (exfalso; revert h; decide) | skip
  · rw [e, sg_zero, sg_zero, Int.zero_mul]; exact (cmpI_eq rfl).symm
  · rw [e]
    rcases Nat.lt_trichotomy a b with q | q | q
    · rw [cmpI_lt (by omega), cmpI_gt (by simp [sg]; omega)]; rfl
    · subst q; rw [cmpI_self, cmpI_eq rfl]; rfl
    · rw [cmpI_gt (by omega), cmpI_lt (by simp [sg]; omega)]; rfl
  · rw [e]
    rcases Nat.lt_trichotomy a b with q | q | q
    · rw [cmpI_lt (by omega), cmpI_lt (by simp [sg]; omega)]; rfl
    · subst q; rw [cmpI_self, cmpI_eq rfl]; rfl
    · rw [cmpI_gt (by omega), cmpI_gt (by simp [sg]; omega)]; rfl

set_option maxHeartbeats 1000000 in
theorem wCmp {w : World} {A B : Option Addr} {n c m d : Nat} {s t : Bool} {x y r : Int} (h : Wr w s A n c x) (k : Wr w t B m d y) (hr : cmpI x y = r) :
    Calls Tryd.prog 63 #[.agg #[.bool s, .slice A n c], .agg #[.bool t, .slice B m d]] w (PI w r) := by
  obtain ⟨a, h', e1⟩ := id h
  obtain ⟨b, k', e2⟩ := id k
  have b1 := cmpI_bd x 0
  have b2 := cmpI_bd y 0
  have b3 := cmpI_bd a b
  by_cases hs : cmpI x 0 = cmpI y 0
  · have HM : Hid (cmpI x 0 * cmpI (a : Int) (b : Int) = r) := Lib.hid (by rw [← hr, ← e1, ← e2]; exact cmp_same (by rw [e1, e2]; exact hs))
    have HX := Lib.hid (rfl : cmpI x 0 = cmpI x 0)
    have HY := Lib.hid hs.symm
    have HZ := Lib.hid (rfl : cmpI (a : Int) (b : Int) = cmpI (a : Int) (b : Int))
    clear hr e1 e2 hs b2
    revert b1 b3 HM HX HY HZ
    generalize hp : cmpI x 0 = p
    generalize hq : cmpI (a : Int) (b : Int) = q
    intro b1 b3 HM HX HY HZ
    have HP := Lib.hid hp
    have HQ := Lib.hid hq
    clear hp hq HX HZ
    have hb : -1 ≤ p * q ∧ p * q ≤ 1 := by
      rcases (by omega : p = -1 ∨ p = 0 ∨ p = 1) with rfl | rfl | rfl <;> omega
    obtain ⟨hb1, hb2⟩ := hb
    obtain ⟨b11, b12⟩ := b1
    obtain ⟨b31, b32⟩ := b3
    have hw : IntKind.i64.wrap (p * q) = p * q := IntWalk.i64_in _ (by omega)
    have hpp : (p != p) = false := by simp
    go_enter Tryd.func63, Tryd.ntmps63
    go_wp2_with (first
      | (go_at_call 39; ((with_reducible refine (wSign (h.below (bel2 _ _ _)) HP.out).mono ?_); rintro e w1 ⟨rfl, B1⟩; obtain ⟨hc, hf⟩ := bcell B1))
      | (go_at_call 39; ((with_reducible refine (wSign (k.below (bt (bel2 _ _ _) B1)) HY.out).mono ?_); rintro e w2 ⟨rfl, B2⟩; clear hc hf; obtain ⟨hc, hf⟩ := bcell (bt B1 B2)))
      | (go_at_call 80; ((with_reducible refine (vCmpE (h'.below (bt (bel2 _ _ _) (bt B1 B2))) (k'.below (bt (bel2 _ _ _) (bt B1 B2))) HQ.out).mono ?_); rintro e w3 ⟨rfl, B3⟩)))
    go_ret
    exact ⟨ret_int HM.out, bt (bel2 _ _ _) (bt B1 (bt B2 B3))⟩
  · have HM : Hid (cmpI (cmpI x 0) (cmpI y 0) = r) := Lib.hid (by rw [← hr]; exact cmp_signs hs)
    have HX := Lib.hid (rfl : cmpI x 0 = cmpI x 0)
    clear hr e1 e2 b3
    revert b1 b2 HM hs
    generalize hp : cmpI x 0 = p
    generalize hq : cmpI y 0 = q
    intro b1 b2 hs HM
    have HP := Lib.hid hp
    have HQ := Lib.hid hq
    clear hp hq HX
    obtain ⟨b11, b12⟩ := b1
    obtain ⟨b31, b32⟩ := b2
    have hne : (p != q) = true := by simpa using hs
    have HS := Lib.hid hs
    clear hs
    go_enter Tryd.func63, Tryd.ntmps63
    go_wp2_with (first
      | (go_at_call 39; ((with_reducible refine (wSign (h.below (bel2 _ _ _)) HP.out).mono ?_); rintro e w1 ⟨rfl, B1⟩; obtain ⟨hc, hf⟩ := bcell B1))
      | (go_at_call 39; ((with_reducible refine (wSign (k.below (bt (bel2 _ _ _) B1)) HQ.out).mono ?_); rintro e w2 ⟨rfl, B2⟩; clear hc hf; obtain ⟨hc, hf⟩ := bcell (bt B1 B2)))
      | (go_at_call 61; ((with_reducible refine (compareInt_any _ _ _).mono ?_); rintro e w3 ⟨rfl, rfl⟩)))
    go_ret
    exact ⟨ret_int HM.out, bt (bel2 _ _ _) (bt B1 B2)⟩

theorem cmpI_zero {x y : Int} : cmpI x y = 0 ↔ x = y := by unfold cmpI; split <;> (try split) <;> omega

set_option maxHeartbeats 400000 in
theorem wSame {w : World} {A B : Option Addr} {n c m d : Nat} {s t : Bool} {x y : Int} {r : Bool} (h : Wr w s A n c x) (k : Wr w t B m d y) (hr : decide (x = y) = r) :
    Calls Tryd.prog 36 #[.agg #[.bool s, .slice A n c], .agg #[.bool t, .slice B m d]] w (PB w r) := by
  have hd := cmpI_zero (x := x) (y := y)
  have HR : Hid ((cmpI x y == 0) = r) := Lib.hid (by rw [← hr, Bool.eq_iff_iff]; simpa using hd)
  clear hr hd
  revert HR
  generalize hp : cmpI x y = p
  intro HR
  have HP := Lib.hid hp
  clear hp
  go_enter Tryd.func36, Tryd.ntmps36
  go_wp2_with (first
    | (go_at_call 63; ((with_reducible refine (wCmp (h.below (bel2 _ _ _)) (k.below (bel2 _ _ _)) HP.out).mono ?_); rintro e w1 ⟨rfl, B1⟩)))
  go_ret
  exact ⟨ret_bool HR.out, bt (bel2 _ _ _) B1⟩
end Go.Proofs.YteoeoppkefcmdaaDoor

/-
  What whole.From does, for every number of 64 bits.
-/
namespace Go.Proofs.YteoeoppkefcmdaaDoor
open Go.RowKit
set_option linter.unusedVariables false

theorem two_rd (W : World) {g k : Nat} {X Y : Int} (hg : W.heap.size = g) (hX : X = ((k % 4294967296 : Nat) : Int)) (hY : Y = ((k / 4294967296 : Nat) : Int)) (hk : k < 18446744073709551616) :
    Rd (W.alloc (.cells #[.int .u32 X, .int .u32 Y] 51)) (some ⟨g, 0, none⟩) 2 2 k := by
  subst hg; subst hX; subst hY
  exact ⟨_, _, lit2 W _ _ (Nat.mod_lt _ (by decide)) (by omega), by simp [val]; omega⟩
theorem u64_negneg (k : Nat) (h : k ≤ 9223372036854775808) : IntKind.u64.wrap (-IntKind.u64.wrap (-(k : Int))) = k := by
  simp [IntKind.wrap, IntKind.signed, IntKind.bits]
  omega

set_option maxHeartbeats 400000 in
theorem from_pos (k : Nat) (w : World) (h : k < 9223372036854775808) : Calls Tryd.prog 35 #[.int .i64 (k : Int)] w (W1 w 2 (k : Int)) := by
  have hd : decide ((k : Int) < 0) = false := by simp
  go_enter Tryd.func35, Tryd.ntmps35
  go_wp2_with (first
    | (go_at_call 58; ((with_reducible refine (wMake false (two_rd _ (by simp) (k := k) (by omega) (by omega) (by omega))).mono ?_); rintro e w2 ⟨s2, A2, n2, c2, rfl, h2, k2, B2⟩; obtain ⟨hc, hf⟩ := bcell B2)))
  have X : Bx w2 w.heap.size false none 0 0 := ((Bx.new w false none 0 0).below (bel1 _ _)).below B2
  exact bodyPost_ret (v := .agg #[.bool s2, .slice A2 n2 c2]) (by simp [results, Tryd.results35, go_sem, X.cell0, X.cell1]) rfl ⟨s2, A2, n2, c2, rfl, h2.st X _ _, by omega, st2 (bt (bel2 _ _ _) B2) (Nat.le_refl _) _ _⟩
set_option maxHeartbeats 400000 in
theorem from_neg (k : Nat) (w : World) (h : k ≤ 9223372036854775808) (h0 : 0 < k) : Calls Tryd.prog 35 #[.int .i64 (-(k : Int))] w (W1 w 2 (-(k : Int))) := by
  have hlt : -(k : Int) < 0 := by omega
  have hw := u64_negneg k h
  go_enter Tryd.func35, Tryd.ntmps35
  go_wp2_with (first
    | (go_at_call 58; ((with_reducible refine (wMake true (two_rd _ (by simp) (k := k) (by clear hw; omega) (by clear hw; omega) (by clear hw; omega))).mono ?_); rintro e w2 ⟨s2, A2, n2, c2, rfl, h2, k2, B2⟩; obtain ⟨hc, hf⟩ := bcell B2)))
  have X : Bx w2 w.heap.size false none 0 0 := ((Bx.new w false none 0 0).below (bel1 _ _)).below B2
  exact bodyPost_ret (v := .agg #[.bool s2, .slice A2 n2 c2]) (by simp [results, Tryd.results35, go_sem, X.cell0, X.cell1]) rfl ⟨s2, A2, n2, c2, rfl, h2.st X _ _, by omega, st2 (bt (bel2 _ _ _) B2) (Nat.le_refl _) _ _⟩
theorem wFrom (z : Int) (w : World) (h1 : -9223372036854775808 ≤ z) (h2 : z ≤ 9223372036854775807) : Calls Tryd.prog 35 #[.int .i64 z] w (W1 w 2 z) := by
  rcases Int.lt_or_le z 0 with h | h
  · have := from_neg z.natAbs w (by omega) (by omega)
    rwa [show -((z.natAbs : Nat) : Int) = z by omega] at this
  · have := from_pos z.natAbs w (by omega)
    rwa [show ((z.natAbs : Nat) : Int) = z by omega] at this
end Go.Proofs.YteoeoppkefcmdaaDoor

/-
  What whole.May does.
-/
namespace Go.Proofs.YteoeoppkefcmdaaDoor
open Go.RowKit
set_option linter.unusedVariables false

/-- May a number be that has the sign s and n limbs, and whose limbs are the number a? -/
def mayB (s : Bool) (n a : Nat) : Bool := decide ((limbs a).length = n) && (decide (0 < n) || !s)
theorem mayB_zero (s : Bool) {a : Nat} (h : a < 4294967296 ^ 0) : mayB s 0 a = !s := by
  obtain rfl : a = 0 := by simpa using h
  simp [mayB, limbs_zero]
theorem mayB_pos (s : Bool) {n : Nat} {xs : List Nat} (hl : Lim xs) (h : xs.length = n) (hn : 0 < n) : mayB s n (val xs) = (((xs.getD (n - 1) 0 : Nat) : Int) != 0) := by
  have h1 : decide (0 < n) = true := by simpa using hn
  unfold mayB
  rw [h1, Bool.true_or, Bool.and_true]
  by_cases e : xs.getD (n - 1) 0 = 0
  · rw [e]
    have : (limbs (val xs)).length ≤ n - 1 := by
      apply limbs_length_le
      have e3 : val (xs.drop (n - 1)) = 0 := by rw [val_drop (by omega), e, show n - 1 + 1 = n by omega, List.drop_of_length_le (by omega)]; rfl
      have e2 := val_take_drop xs (k := n - 1) (by omega)
      rw [e3, Nat.mul_zero, Nat.add_zero] at e2
      rw [e2]
      have := val_lt (hl.take (n - 1))
      rwa [List.length_take, h, Nat.min_eq_left (by omega)] at this
    simp
    omega
  · have := take_eq_limbs hl (k := n) (by omega) (by rw [List.drop_of_length_le (by omega)]; rfl) (fun _ => e)
    have hlen : (limbs (val xs)).length = n := by rw [← this, List.length_take]; omega
    rw [hlen]
    have e' : ((xs.getD (n - 1) 0 : Nat) : Int) ≠ 0 := by omega
    simp only [decide_true]
    exact (bne_iff_ne.2 e').symm
theorem mayB_wn {w : World} {s : Bool} {A : Option Addr} {n c : Nat} {z : Int} (h : Wn w s A n c z) : mayB s n z.natAbs = true := by
  have hl := h.1.len
  have hp := h.1.pos
  have hs := h.2
  unfold mayB
  rw [hl]
  by_cases e : z < 0
  · have : 0 < n := by omega
    simp [this]
  · rw [hs]; simp [e]

set_option maxHeartbeats 400000 in
theorem wMay {w : World} {A : Option Addr} {n c a : Nat} {s : Bool} {r : Bool} (h : Rd w A n c a) (hr : mayB s n a = r) : Calls Tryd.prog 46 #[.agg #[.bool s, .slice A n c]] w (PB w r) := by
  rcases Nat.eq_zero_or_pos n with e | hn
  · subst e
    rw [mayB_zero s h.bound] at hr
    subst hr
    go_enter Tryd.func46, Tryd.ntmps46
    go_wp2
    go_ret
    exact ⟨rfl, bel1 _ _⟩
  · obtain ⟨b, xs, h, rfl⟩ := h
    rw [mayB_pos s h.lim h.len hn] at hr
    have hbig := h.big
    have hcap := h.cap
    have hlt := h.lt hn
    obtain ⟨o, rfl, hcell⟩ := h.at hn
    have hck := hcell (n - 1) (by omega)
    clear hcell h
    have hi : ((n : Int) - 1).toNat = n - 1 := by omega
    revert hr hck
    generalize xs.getD (n - 1) 0 = x
    intro hr hck
    have HR := Lib.hid hr
    have hq : ((n : Int) == 0) = false := by have : (n : Int) ≠ 0 := by omega
                                             simpa using this
    have hne : b ≠ w.heap.size := by omega
    clear hr
    go_enter Tryd.func46, Tryd.ntmps46
    go_wp2
    go_ret
    exact ⟨ret_bool HR.out, bel1 _ _⟩
end Go.Proofs.YteoeoppkefcmdaaDoor

/-
  append, onto a row of limbs of the call's own.
-/
namespace Go.Proofs.YteoeoppkefcmdaaDoor
open Go.RowKit
set_option linter.unusedVariables false

/-- A row of limbs of the call's own, that may be appended to. -/
def Ar (w : World) (base : Nat) (A : Option Addr) (n c : Nat) (l : List Nat) : Prop := w.ownsRow base 51 1 (.slice A n c) n (l.map u32) ∧ Lim l

section
variable {w w' : World} {base n c : Nat} {A : Option Addr} {l : List Nat}

theorem Ar.nil (w : World) (base : Nat) : Ar w base none 0 0 [] := ⟨World.ownsRow_nil w base _ 1, Lim.nil⟩
theorem Ar.lim (h : Ar w base A n c l) : Lim l := h.2
theorem Ar.len (h : Ar w base A n c l) : l.length = n := by have := h.1.1; simpa using this
theorem Ar.alloc (h : Ar w base A n c l) (o : Obj) : Ar (w.alloc o) base A n c l := ⟨h.1.alloc o, h.2⟩
theorem Ar.below {B : Nat} (h : Ar w base A n c l) (hb : Below B w w') (hB : ∀ g, A = some ⟨g, 0, none⟩ → g < B) : Ar w' base A n c l := by
  refine ⟨⟨h.1.1, ?_⟩, h.2⟩
  rcases h.1.2 with ⟨h1, h2⟩ | ⟨g, cap, cur, hv, hg, hh, r⟩
  · exact Or.inl ⟨h1, h2⟩
  · refine Or.inr ⟨g, cap, cur, hv, hg, ?_, r⟩
    have : A = some ⟨g, 0, none⟩ := by injection hv
    rw [hb.block g (hB g this)]
    exact hh
theorem Ar.all (h : Ar w base A n c l) (hb : Below w.heap.size w w') : Ar w' base A n c l := h.below hb fun g hg => by
  rcases h.1.2 with ⟨h1, h2⟩ | ⟨g', cap, cur, hv, _, hh, r⟩
  · injection h1 with h1; rw [h1] at hg; cases hg
  · have : A = some ⟨g', 0, none⟩ := by injection hv
    rw [this] at hg
    injection hg with hg
    injection hg with hg
    subst hg
    rcases Nat.lt_or_ge g' w.heap.size with hlt | hge
    · exact hlt
    · rw [Array.getElem?_eq_none hge] at hh; cases hh
/-- It reads as a slice. -/
theorem Ar.sl (h : Ar w base A n c l) (hn : n ≤ 1099511627776) : ∃ g, base ≤ g ∧ Sl w g A n c l ∨ n = 0 ∧ Sl w g A n c l := by
  rcases h.1.2 with ⟨h1, h2⟩ | ⟨g, cap, cur, hv, hg, hh, hc, hm, hs, ht⟩
  · have : l = [] := List.eq_nil_of_length_eq_zero (by rw [h.len]; exact h2)
    subst this
    subst h2
    injection h1 with e1 e2 e3
    subst e1; subst e3
    exact ⟨0, Or.inr ⟨rfl, Sl.nil⟩⟩
  · injection hv with e1 e2 e3
    subst e1; subst e3
    refine ⟨g, Or.inl ⟨hg, h.len, hc, hn, h.2, fun hp => ⟨0, rfl, fun k hk => ?_⟩⟩⟩
    rw [cell_of_row w g (0 + k) _ _ (0, 0) hh, Nat.zero_add]
    have h2 : (cur.toList.take (n * 1))[k]? = (l.map u32)[k]? := by rw [ht]
    rw [List.getElem?_take, if_pos (by omega), List.getElem?_map] at h2
    rw [← Array.getElem?_toList, h2, List.getD_eq_getElem?_getD]
    rcases hq : l[k]? with _ | y
    · rw [List.getElem?_eq_none_iff] at hq; have := h.len; omega
    · simp [u32]
theorem Ar.slice (h : Ar w base A n c l) (hn : n ≤ 1099511627776) : ∃ g, Sl w g A n c l := by
  obtain ⟨g, h | h⟩ := h.sl hn
  · exact ⟨g, h.2⟩
  · exact ⟨g, h.2⟩

theorem one_limbs (l : List Nat) : ∀ v ∈ l.map u32, v.oneCell' = true := by
  intro v hv
  obtain ⟨y, _, rfl⟩ := List.mem_map.1 hv
  rfl

theorem own_lt (h : w.ownsRow base 51 1 (.slice A n c) n (l.map u32)) {w' : World} (hg : w.grownBy w' (Value.slice A n c).ownBlock) (hb : base ≤ w.heap.size) : Below base w w' :=
  ⟨hg.os, hg.tape, hg.output, hg.size, fun k hk => hg.block k (by omega) (fun e => by have := (h.lt k e.symm).1; omega)⟩

/-- append(d, s...): what the builtin does. -/
theorem run_app {t ty : TypeId} (ht : Tryd.prog.underlying t = some (.slice 51)) {b m c' : Nat} {A' : Option Addr} {ys : List Nat} (hd : Ar w base A n c l) (hs : Sl w b A' m c' ys) (hsz : n + m ≤ 1099511627776) (hb : base ≤ w.heap.size) :
    ∃ A2 c2 w', (Builtin.append_ #[t, t] ty #[.slice A n c, .slice A' m c']).run Tryd.prog w = .ok (.slice A2 (n + m) c2) w' ∧ Ar w' base A2 (n + m) c2 (l ++ ys) ∧ Below base w w' := by
  obtain ⟨i, hi, hz, hsi, hby⟩ := info_parts info32
  rcases Nat.eq_zero_or_pos m with e | e
  · subst e
    have : ys = [] := List.eq_nil_of_length_eq_zero hs.len
    subst this
    rcases A' with _ | ad
    · refine ⟨A, c, w, ?_, by rw [List.append_nil]; exact hd, Below.refl _ _⟩
      rcases hd.1.2 with ⟨h1, h2⟩ | ⟨g, cap, cur, hv, hg, hh, hc, hm, hs', ht'⟩
      · injection h1 with e1 e2 e3
        subst e1; subst e3; subst h2
        simp [Builtin.append_, run_underlying ht, sizeOf, typeInfo, hi, Builtin.lenOf, Builtin.firstCells]
      · injection hv with e1 e2 e3
        subst e1; subst e3
        simp [Builtin.append_, run_underlying ht, sizeOf, typeInfo, hi, Builtin.lenOf, Builtin.firstCells, hc, storeCells]
    · obtain ⟨v', w', hr, ho, hg, _, _⟩ := run_append_own_at (P := Tryd.prog) w base t ty 51 i _ 1 4 ht hi hz hsi hby rfl (by decide) _ n (l.map u32) hd.1 ad 0 c' [] (by simp) (by simp) (by simp) (by unfold maxLen; omega) (by omega) hb
      have hbl := own_lt hd.1 hg hb
      rcases ho.2 with ⟨h1, h2⟩ | ⟨g, cap, cur, hv, r⟩
      · subst h1
        rw [h2] at ho
        exact ⟨none, 0, w', by rw [h2]; exact hr, ⟨by rw [h2]; simpa using ho, by simpa using hd.2⟩, hbl⟩
      · subst hv
        exact ⟨_, _, w', hr, ⟨by simpa using ho, by simpa using hd.2⟩, hbl⟩
  · obtain ⟨off, rfl, hc⟩ := hs.at e
    obtain ⟨v', w', hr, ho, hg, _, _⟩ := run_append_own_at (P := Tryd.prog) w base t ty 51 i _ 1 4 ht hi hz hsi hby rfl (by decide) _ n (l.map u32) hd.1 ⟨b, off, none⟩ m c' (ys.map u32) (by simp [hs.len]) (by
        intro j u hj
        have hj' : j < m := by
          have := (List.getElem?_eq_some_iff.1 hj).1
          have := hs.len
          simp at *
          omega
        rw [Addr.add_mid, hc j hj']
        rw [List.getElem?_map] at hj
        rw [List.getD_eq_getElem?_getD]
        rcases hq : ys[j]? with _ | y
        · rw [hq] at hj; simp at hj
        · rw [hq] at hj
          simp at hj ⊢
          exact hj) (one_limbs ys) (by unfold maxLen; omega) (by omega) hb
    have hbl := own_lt hd.1 hg hb
    rcases ho.2 with ⟨h1, h2⟩ | ⟨g, cap, cur, hv, r⟩
    · omega
    · subst hv
      exact ⟨_, _, w', hr, ⟨by rw [List.map_append]; exact ho, hd.2.append hs.lim⟩, hbl⟩

/-- append(d, s...), in a walk. -/
theorem wpList_app {ops : Array Oper} {rest : List Oper} {o : Oper} {a : Act} {Q : Exit → Act → World → Prop} (hgd : o.guard = none) (s x : Operand) (t : TypeId)
    (ho : o.op = .call { callee := .builtin .append, args := #[s, x], argTypes := #[t, t] }) (ht : Tryd.prog.underlying t = some (.slice 51)) {b m c' : Nat} {A' : Option Addr} {ys : List Nat}
    (hs : a.eval s = .slice A n c) (hx : a.eval x = .slice A' m c') (hd : Ar w base A n c l) (hy : Sl w b A' m c' ys) (hsz : n + m ≤ 1099511627776) (hb : base ≤ w.heap.size)
    (h : ∀ A2 c2 w', Ar w' base A2 (n + m) c2 (l ++ ys) → Below base w w' → wpList Tryd.prog ops Q rest (a.put o.dst (.slice A2 (n + m) c2)) w') : wpList Tryd.prog ops Q (o :: rest) a w := by
  refine wpList_plain hgd fun K hK => ?_
  obtain ⟨A2, c2, w', hr, h1, h2⟩ := run_app (ty := o.type) ht hd hy hsz hb
  unfold Oper.wp execOp
  simp only [ho, resolve, invoke, builtin, Sem.run_bind, Sem.run_pure, Result.andThen_ok, List.map_toArray, List.map_cons, List.map_nil, hs, hx, hr]
  exact hK _ _ (h A2 c2 w' h1 h2)
end
end Go.Proofs.YteoeoppkefcmdaaDoor

/-
  The document's answers of layer 1: what Trim, Cmp, at and Add do, said of numbers.
-/
namespace Go.Proofs.YteoeoppkefcmdaaDoor
open Go.RowKit
set_option linter.unusedVariables false

theorem Ar.nm {w : World} {base n c v : Nat} {A : Option Addr} (h : Ar w base A n c (limbs v)) (hn : n ≤ 1099511627776) : Nm w A n c v := by
  obtain ⟨g, h⟩ := h.slice hn
  exact ⟨g, h⟩

set_option maxHeartbeats 400000 in
theorem rTrim {w : World} {A : Option Addr} {n c v : Nat} (h1 : Rd w A n c v) : Calls Tryd.prog 69 #[.slice A n c] w (P1 w n v) := by
  have hle := h1.limbs_le
  obtain ⟨b, xs, h, rfl⟩ := h1
  have hc := h.cap
  have hb := h.big
  go_enter Tryd.func69, Tryd.ntmps69
  go_wp2
  go_loop [3] (fun i => ∃ k : Nat, k ≤ n ∧ i = .int .i64 k ∧ val (xs.drop k) = 0) (fun i => (intOf i).toNat)
  case atStart => exact ⟨n, Nat.le_refl _, rfl, by rw [List.drop_of_length_le (by rw [h.len]; omega)]; rfl⟩
  case round =>
    obtain ⟨k, hk, rfl, hz⟩ := hrel
    have HZ := Lib.hid hz
    clear hz
    by_cases hk0 : 0 < k ∧ xs.getD (k - 1) 0 = 0
    · obtain ⟨hk0, hx⟩ := hk0
      obtain ⟨o, rfl, hcell⟩ := h.at (by omega)
      have hck := hcell (k - 1) (by omega)
      have hi : ((k : Int) - 1).toNat = k - 1 := by omega
      clear hcell
      rw [hx] at hck
      have HX := Lib.hid hx
      clear hx
      go_wp2
      go_round
      case rel =>
        refine ⟨k - 1, by omega, by go_num, ?_⟩
        have hl := h.len
        rw [val_drop (by omega), show k - 1 + 1 = k by omega, HZ.out, HX.out]
      case measure => simp [intOf]; omega
    · have hT := take_eq_limbs h.lim (by have := h.len; omega) HZ.out (fun h0 e => hk0 ⟨h0, e⟩)
      have hsl := h.take hk
      rw [hT] at hsl
      have HT : Hid (k = (limbs (val xs)).length) := by show k = _; rw [hsl.len]
      have hlk := hsl.len
      have HP : Hid (∀ A2 c2 w', Ar w' w.heap.size A2 (0 + k) c2 ([] ++ limbs (val xs)) → Below w.heap.size w w' → P1 w n (val xs) (.returned (.slice A2 k c2)) w') := by
        intro A2 c2 w' ha hbl
        rw [Nat.zero_add, List.nil_append] at ha
        exact ⟨A2, k, c2, rfl, ha.nm (by omega), hk, hbl⟩
      have HS := Lib.hid hsl
      clear hT hsl hlk
      by_cases hp : 0 < k
      · obtain ⟨o, rfl, hcell⟩ := h.at (by omega)
        have hck := hcell (k - 1) (by omega)
        have hi : ((k : Int) - 1).toNat = k - 1 := by omega
        have hx' : ((xs.getD (k - 1) 0 : Nat) : Int) ≠ 0 := by
          intro e
          exact hk0 ⟨hp, by omega⟩
        clear hk0 hcell
        revert hck hx'
        generalize xs.getD (k - 1) 0 = x
        intro hck hx'
        have hx2 : ((x : Int) == 0) = false := by simpa using hx'
        go_wp2_with (with_reducible refine wpList_app rfl (.const (.slice none 0 0)) (.tmp 20) 22 rfl Tryd.underlying22 rfl rfl (Ar.nil w w.heap.size) HS.out (by omega) (Nat.le_refl _) ?_; intro A2 c2 w2 ha hbl)
        go_ret
        exact HP.out _ _ _ ha hbl
      · obtain rfl : k = 0 := by omega
        go_wp2_with (with_reducible refine wpList_app rfl (.const (.slice none 0 0)) (.tmp 20) 22 rfl Tryd.underlying22 rfl rfl (Ar.nil w w.heap.size) HS.out (by omega) (Nat.le_refl _) ?_; intro A2 c2 w2 ha hbl)
        go_ret
        exact HP.out _ _ _ ha hbl

/-- A limb; nought beyond the last one. -/
theorem rAt (w : World) (b : Nat) (A : Option Addr) (n c : Nat) (xs : List Nat) (h : Sl w b A n c xs) (i : Nat) (hi : i ≤ 1099511627776) :
    Calls Tryd.prog 93 #[.slice A n c, .int .i64 (i : Int)] w fun e w' => e = .returned (.int .u64 ((xs.getD i 0 : Nat) : Int)) ∧ w = w' := by
  have hb := h.big
  by_cases hin : i < n
  · obtain ⟨o, rfl, hc⟩ := h.at (by omega)
    have hck := hc i hin
    have hx := h.lim.getD i
    clear hc h
    revert hck hx
    generalize xs.getD i 0 = x
    intro hck hx
    go_enter Tryd.func93, Tryd.ntmps93
    go_wp2
    go_ret
    exact ⟨rfl, rfl⟩
  · rw [getD_beyond (by rw [h.len]; omega)]
    clear h
    go_enter Tryd.func93, Tryd.ntmps93
    go_wp2
    go_ret
    exact ⟨rfl, rfl⟩

def RaddInv (w : World) (xs ys : List Nat) (k cy : Nat) (v : Value) (wr : World) : Prop :=
  ∃ A c zs, v = .slice A k c ∧ Ar wr w.heap.size A k c zs ∧ Below w.heap.size w wr ∧ cy ≤ 1 ∧ val zs + cy * 4294967296 ^ k = val (xs.take k) + val (ys.take k)

set_option maxHeartbeats 1000000 in
theorem rAdd {w : World} {A1 A2 : Option Addr} {n m c1 c2 a b : Nat} (h1 : Rd w A1 n c1 a) (h2 : Rd w A2 m c2 b) (hn : n ≤ 1073741824) (hm : m ≤ 1073741824) :
    Calls Tryd.prog 84 #[.slice A1 n c1, .slice A2 m c2] w (P1 w (n + m + 1) (a + b)) := by
  have hL := limbs_add_len h1.bound h2.bound
  obtain ⟨b1, xs, h1, rfl⟩ := h1
  obtain ⟨b2, ys, h2, rfl⟩ := h2
  have H1 := Lib.hid h1.len
  have H2 := Lib.hid h2.len
  go_enter Tryd.func84, Tryd.ntmps84
  go_wp2
  go_loopw [5, 6, 7] (fun v u i wr => ∃ k cy : Nat, k ≤ max n m + 1 ∧ (max n m < k → cy = 0) ∧ i = .int .i64 k ∧ u = .int .u64 cy ∧ RaddInv w xs ys k cy v wr) (fun _ _ i _ => n + m + 2 - (intOf i).toNat)
  case atStart => exact ⟨0, 0, Nat.zero_le _, fun _ => rfl, rfl, rfl, none, 0, [], rfl, Ar.nil _ _, Below.refl _ _, by omega, by simp [val]⟩
  case round =>
    obtain ⟨k, cy, hk, hor, rfl, rfl, hI⟩ := hrel
    obtain ⟨A, c, zs, rfl, ha, hbl, hcy, hv⟩ := hI
    have HV := Lib.hid hv
    have HA := Lib.hid ha
    have HB := Lib.hid hbl
    clear hv ha hbl
    have hkb : k ≤ 2147483649 := by omega
    by_cases hgo : k < n ∨ k < m ∨ 0 < cy
    · have hkm : k ≤ max n m := by
        rcases Nat.lt_or_ge (max n m) k with e | e
        · have := hor e; omega
        · exact e
      have s1 := h1.below HB.out
      have s2 := h2.below HB.out
      have bx := h1.lim.getD k
      have by' := h2.lim.getD k
      have HG1 := Lib.hid (rAt wr b1 A1 n c1 xs s1 k (by omega))
      have HG2 := Lib.hid (rAt wr b2 A2 m c2 ys s2 k (by omega))
      have HST : Hid (∀ x y, xs.getD k 0 = x → ys.getD k 0 = y → val (xs.take (k + 1)) + val (ys.take (k + 1)) = (val (xs.take k) + 4294967296 ^ k * x) + (val (ys.take k) + 4294967296 ^ k * y) ∧ (n ≤ k → x = 0) ∧ (m ≤ k → y = 0)) := fun x y hx hy => by
        refine ⟨by rw [val_take_more, val_take_more, hx, hy], fun h => ?_, fun h => ?_⟩
        · rw [← hx]; exact getD_beyond (by rw [H1.out]; exact h)
        · rw [← hy]; exact getD_beyond (by rw [H2.out]; exact h)
      have HST' := Lib.hid (HST.out _ _ rfl rfl)
      clear HST s1 s2
      revert HG1 HG2 bx by' HST'
      generalize xs.getD k 0 = x
      generalize ys.getD k 0 = y
      intro bx by' HG1 HG2 HST
      obtain ⟨t, ht, e1⟩ : ∃ t : Nat, t = (x + y + cy) % 4294967296 ∧ ((x : Int) + y + cy) % 4294967296 = t := ⟨_, rfl, by omega⟩
      obtain ⟨u, hu, e2⟩ : ∃ u : Nat, u = (x + y + cy) / 4294967296 ∧ ((x : Int) + y + cy) / 4294967296 = u := ⟨_, rfl, by omega⟩
      have bt : t < 4294967296 := by omega
      have e3 : (t : Int) % 4294967296 = t := by omega
      have HN : Hid (∀ A3 c3 w3, Ar w3 w.heap.size A3 (k + 1) c3 (zs ++ [t]) → Below w.heap.size (wr.alloc (.cells #[.int .u32 (t : Int)] 51)) w3 → k + 1 ≤ max n m + 1 ∧ (max n m < k + 1 → u = 0) ∧ RaddInv w xs ys (k + 1) u (.slice A3 (k + 1) c3) w3) := by
        intro A3 c3 w3 ha3 hb3
        refine ⟨by omega, fun h => ?_, A3, c3, _, rfl, ha3, (HB.out.alloc HB.out.size _).trans hb3, by omega, ?_⟩
        · have hx0 : n ≤ k := by omega
          have hy0 : m ≤ k := by omega
          have := HST.out.2.1 hx0
          have := HST.out.2.2 hy0
          omega
        · rw [val_snoc, HA.out.len, HST.out.1, Nat.pow_succ, ht, hu]
          exact add_step HV.out
      clear ht hu HV HST hor
      have sl1 := lit1 wr t bt
      go_wp2_with (first
        | (go_at_call 93; ((with_reducible refine HG1.out.mono ?_); rintro e w' ⟨rfl, rfl⟩))
        | (go_at_call 93; ((with_reducible refine HG2.out.mono ?_); rintro e w' ⟨rfl, rfl⟩))
        | (with_reducible refine wpList_app rfl (.tmp 34) (.tmp 38) 22 rfl Tryd.underlying22 rfl rfl (HA.out.alloc _) sl1 (by omega) (HB.out.alloc HB.out.size _).size ?_; intro A3 c3 w3 ha3 hb3; have HN3 := Lib.hid (HN.out A3 c3 w3 ha3 hb3); clear ha3 hb3))
      all_goals
        go_roundw
        case rel => exact ⟨k + 1, u, HN3.out.1, HN3.out.2.1, by go_num, by first | rfl | rw [e2], HN3.out.2.2⟩
        case measure => simp [intOf]; omega
    · have hkn : n ≤ k := by omega
      have hkm : m ≤ k := by omega
      obtain rfl : cy = 0 := by omega
      obtain ⟨g, hs⟩ := HA.out.slice (by omega)
      have hv := HV.out
      rw [val_take_all (by rw [H1.out]; exact hkn), val_take_all (by rw [H2.out]; exact hkm), Nat.zero_mul, Nat.add_zero] at hv
      have HT := Lib.hid (rTrim ⟨g, zs, hs, hv⟩)
      clear hv HV hgo hor hs
      go_wp2_with (go_at_call 69; ((with_reducible refine HT.out.mono ?_); rintro e w4 ⟨A4, n4, c4, rfl, hm4, hk4, hb4⟩))
      go_ret
      have := hm4.len
      exact ⟨A4, n4, c4, rfl, hm4, by omega, HB.out.trans (hb4.mono HB.out.size)⟩

theorem sign_cases {x y : Nat} : x < y ∨ x = y ∨ y < x := by omega

set_option maxHeartbeats 1000000 in
theorem rCmp {w : World} {A1 A2 : Option Addr} {n m c1 c2 a b : Nat} {z : Int} (h1 : Rd w A1 n c1 a) (h2 : Rd w A2 m c2 b) (hz : cmpI (a : Int) (b : Int) = z) :
    Calls Tryd.prog 94 #[.slice A1 n c1, .slice A2 m c2] w (PI w z) := by
  have HT1 := Lib.hid (rTrim h1)
  have HZ := Lib.hid hz
  clear hz
  go_enter Tryd.func94, Tryd.ntmps94
  go_wp2_with (go_at_call 69; ((with_reducible refine HT1.out.mono ?_); rintro e w3 ⟨A3, p, c3, rfl, s3, k3, B3⟩; replace h2 := h2.below B3; have HB := Lib.hid B3; clear B3))
  refine (rTrim h2).mono ?_
  rintro e w4 ⟨A4, q, c4, rfl, s4, k4, B4⟩
  replace s3 := s3.below B4
  replace HB := Lib.hid (HB.out.trans (B4.mono HB.out.size))
  clear B4 HT1 h1 h2
  have l3 := s3.len
  have l4 := s4.len
  obtain ⟨b3, s3⟩ := s3
  obtain ⟨b4, s4⟩ := s4
  have hb3 := s3.big
  have hb4 := s4.big
  by_cases hpq : p = q
  · subst hpq
    have hne' : ((p : Int) != (p : Int)) = false := by simp
    have HL3 := Lib.hid l3
    have HL4 := Lib.hid l4
    clear l3 l4
    go_wp2_with fail
    go_loopw [7] (fun i wr => ∃ k t : Nat, k ≤ p ∧ i = .int .i64 ((p : Int) - 1 - k) ∧ wr = w4.drewN t ∧ val ((limbs a).drop (p - k)) = val ((limbs b).drop (p - k))) (fun i _ => (intOf i + 1).toNat)
    case atStart => exact ⟨0, 0, Nat.zero_le _, by go_num, rfl, by rw [List.drop_of_length_le (by rw [HL3.out]; omega), List.drop_of_length_le (by rw [HL4.out]; omega)]⟩
    case round =>
      obtain ⟨k, t, hk, rfl, rfl, hz⟩ := hrel
      have HZZ := Lib.hid hz
      clear hz
      by_cases hlt : k < p
      · obtain ⟨o3, rfl, j3⟩ := s3.at (by omega)
        obtain ⟨o4, rfl, j4⟩ := s4.at (by omega)
        have g3 := j3 (p - 1 - k) (by omega)
        have g4 := j4 (p - 1 - k) (by omega)
        clear j3 j4
        have HX := Lib.hid (val_limb_cases (lim_limbs a) (lim_limbs b) HL3.out HL4.out hlt HZZ.out)
        rw [val_limbs, val_limbs] at HX
        revert g3 g4 HX
        generalize (limbs a).getD (p - 1 - k) 0 = x
        generalize (limbs b).getD (p - 1 - k) 0 = y
        intro g3 g4 HX
        have i1 : ((p : Int) - 1 - k).toNat = p - 1 - k := by omega
        have i2 : 0 ≤ (p : Int) - 1 - k := by omega
        rcases Nat.lt_trichotomy x y with hxy | hxy | hxy
        · have HR : Hid ((-1 : Int) = z) := by show _ = _; rw [← HZ.out]; exact (cmpI_lt (by have := HX.out.1 hxy; omega)).symm
          have hxy' : decide ((x : Int) < y) = true := by simp; omega
          clear HX
          go_wp2
          go_quiet (fail)
          go_wp2
          go_ret
          exact ⟨ret_int HR.out, by first | exact below_drewN HB.out _ | exact below_drewN (below_drewN HB.out _) _⟩
        · subst hxy
          have hxy' : decide ((x : Int) < x) = false := by simp
          have hD := HX.out.2.2 rfl
          have HD := Lib.hid hD
          clear HX hD
          go_wp2
          go_quiet (fail)
          go_wp2
          go_quiet (fail)
          go_wp2
          go_roundw
          case rel => exact ⟨k + 1, _, by omega, by go_num, by first | rfl | rw [World.drewN_drewN] | rw [World.drewN_drewN, World.drewN_drewN], by rw [show p - (k + 1) = p - 1 - k by omega]; exact HD.out⟩
          case measure => simp [intOf]; omega
        · have HR : Hid ((1 : Int) = z) := by show _ = _; rw [← HZ.out]; exact (cmpI_gt (by have := HX.out.2.1 hxy; omega)).symm
          have hxy' : decide ((x : Int) < y) = false := by simp; omega
          have hxy2 : decide ((y : Int) < x) = true := by simp; omega
          clear HX
          go_wp2
          go_quiet (fail)
          go_wp2
          go_quiet (fail)
          go_wp2
          go_ret
          exact ⟨ret_int HR.out, below_drewN (below_drewN (below_drewN HB.out _) _) _⟩
      · obtain rfl : k = p := by omega
        have e := HZZ.out
        rw [Nat.sub_self, List.drop_zero, List.drop_zero, val_limbs, val_limbs] at e
        have HR : Hid ((0 : Int) = z) := by show _ = _; rw [← HZ.out]; exact (cmpI_eq (by omega)).symm
        clear e HZZ
        go_wp2
        go_ret
        exact ⟨ret_int HR.out, below_drewN HB.out _⟩
  · have hne' : ((p : Int) != (q : Int)) = true := by simp; omega
    by_cases hlt : p < q
    · have HR : Hid ((-1 : Int) = z) := by show _ = _; rw [← HZ.out]; exact (cmpI_lt (by have := limbs_length_lt_of_lt (a := a) (b := b) (by omega); omega)).symm
      have hlt' : decide ((p : Int) < q) = true := by simp; omega
      clear hpq l3 l4
      go_wp2
      go_ret
      exact ⟨ret_int HR.out, HB.out⟩
    · have HR : Hid ((1 : Int) = z) := by show _ = _; rw [← HZ.out]; exact (cmpI_gt (by have := limbs_length_lt_of_lt (a := b) (b := a) (by omega); omega)).symm
      have hlt' : decide ((p : Int) < q) = false := by simp; omega
      clear hpq l3 l4
      go_wp2
      go_ret
      exact ⟨ret_int HR.out, HB.out⟩
end Go.Proofs.YteoeoppkefcmdaaDoor

/-
  The document's answers of layer 1: what Same does, said of numbers.
-/
namespace Go.Proofs.YteoeoppkefcmdaaDoor
open Go.RowKit
set_option linter.unusedVariables false

/-- Are two lists of limbs the same? Of trim limbs: are the numbers? -/
theorem same_core (w : World) (b1 b2 : Nat) (A1 A2 : Option Addr) (n c1 c2 : Nat) (xs : List Nat) (h1 : Sl w b1 A1 n c1 xs) (h2 : Sl w b2 A2 n c2 xs) :
    Calls Tryd.prog 55 #[.slice A1 n c1, .slice A2 n c2] w fun e w' => e = .returned (.bool true) ∧ Below w.heap.size w w' := by
  have hb := h1.big
  have hne : ((n : Int) != (n : Int)) = false := by simp
  go_enter Tryd.func55, Tryd.ntmps55
  go_wp2
  go_loopw [5] (fun i wr => ∃ k q : Nat, k ≤ n ∧ i = .int .i64 k ∧ wr = w.drewN q) (fun i _ => n - (intOf i).toNat)
  case atStart => exact ⟨0, 0, Nat.zero_le _, rfl, rfl⟩
  case round =>
    obtain ⟨k, q, hk, rfl, rfl⟩ := hrel
    by_cases hlt : k < n
    · obtain ⟨o1, rfl, k1⟩ := h1.at (by omega)
      obtain ⟨o2, rfl, k2⟩ := h2.at (by omega)
      have g1 := k1 k hlt
      have g2 := k2 k hlt
      clear k1 k2
      revert g1 g2
      generalize xs.getD k 0 = x
      intro g1 g2
      have hx : ((x : Int) != (x : Int)) = false := by simp
      go_wp2
      go_quiet (fail)
      go_wp2
      go_roundw
      case rel => exact ⟨k + 1, _, by omega, by go_num, by first | rfl | rw [World.drewN_drewN]⟩
      case measure => simp [intOf]; omega
    · go_wp2
      go_ret
      exact ⟨rfl, below_drewN (Below.refl _ _) _⟩

theorem rSame {w : World} {A1 A2 : Option Addr} {n m c1 c2 v : Nat} (h1 : Nm w A1 n c1 v) (h2 : Nm w A2 m c2 v) :
    Calls Tryd.prog 55 #[.slice A1 n c1, .slice A2 m c2] w fun e w' => e = .returned (.bool true) ∧ Below w.heap.size w w' := by
  obtain rfl : n = m := by rw [← h1.len, ← h2.len]
  obtain ⟨b1, h1⟩ := h1
  obtain ⟨b2, h2⟩ := h2
  exact same_core w b1 b2 A1 A2 n c1 c2 _ h1 h2
end Go.Proofs.YteoeoppkefcmdaaDoor

/-
  What pelorusref02.Make, Neg, Sign, Alike, May and From do.
-/
namespace Go.Proofs.YteoeoppkefcmdaaDoor
open Go.RowKit
set_option linter.unusedVariables false

set_option maxHeartbeats 400000 in
theorem qMake {w : World} {A : Option Addr} {n c a : Nat} (s : Bool) (h : Rd w A n c a) : Calls Tryd.prog 42 #[.bool s, .slice A n c] w (W1 w n (sg s a)) := by
  cases s
  · go_enter Tryd.func42, Tryd.ntmps42
    go_wp2_with (first
      | (go_at_call 69; ((with_reducible refine (rTrim (h.below (bel1 _ _))).mono ?_); rintro e w1 ⟨A1, n1, c1, rfl, h1, k1, B1⟩; obtain ⟨hc, hf⟩ := bcell B1)))
    have X : Bx w1 w.heap.size false none 0 0 := (Bx.new w false none 0 0).below B1
    exact bodyPost_ret (v := .agg #[.bool false, .slice A1 n1 c1]) (by simp [results, Tryd.results42, go_sem, X.cell0, X.cell1]) rfl ⟨false, A1, n1, c1, rfl, (h1.wn false).st X _ _, by omega, st2 (bt (bel1 _ _) B1) (Nat.le_refl _) _ _⟩
  · rcases Nat.eq_zero_or_pos a with e | e
    · subst e
      go_enter Tryd.func42, Tryd.ntmps42
      go_wp2_with (first
        | (go_at_call 69; ((with_reducible refine (rTrim (h.below (bel1 _ _))).mono ?_); rintro e w1 ⟨A1, n1, c1, rfl, h1, k1, B1⟩; obtain ⟨hc, hf⟩ := bcell B1; obtain rfl : n1 = 0 := by { have := h1.pos; omega })))
      have X : Bx w1 w.heap.size false none 0 0 := (Bx.new w false none 0 0).below B1
      exact bodyPost_ret (v := .agg #[.bool false, .slice A1 0 c1]) (by simp [results, Tryd.results42, go_sem, X.cell0, X.cell1]) rfl ⟨false, A1, 0, c1, rfl, (h1.wn true).st X _ _, by omega, st2 (bt (bel1 _ _) B1) (Nat.le_refl _) _ _⟩
    · go_enter Tryd.func42, Tryd.ntmps42
      go_wp2_with (first
        | (go_at_call 69; ((with_reducible refine (rTrim (h.below (bel1 _ _))).mono ?_); rintro e w1 ⟨A1, n1, c1, rfl, h1, k1, B1⟩; obtain ⟨hc, hf⟩ := bcell B1; have hpos : 0 < n1 := by { have := h1.pos; omega }; have hbig := h1.rd.big)))
      have X : Bx w1 w.heap.size false none 0 0 := (Bx.new w false none 0 0).below B1
      have hd : decide (0 < n1) = true := by simpa using hpos
      have hw := h1.wn true
      rw [hd] at hw
      exact bodyPost_ret (v := .agg #[.bool true, .slice A1 n1 c1]) (by simp [results, Tryd.results42, go_sem, X.cell0, X.cell1]) rfl ⟨true, A1, n1, c1, rfl, hw.st X _ _, by omega, st2 (bt (bel1 _ _) B1) (Nat.le_refl _) _ _⟩

set_option maxHeartbeats 400000 in
theorem qNeg {w : World} {A : Option Addr} {n c : Nat} {s : Bool} {z r : Int} (h : Wr w s A n c z) (hr : -z = r) : Calls Tryd.prog 54 #[.agg #[.bool s, .slice A n c]] w (W1 w n r) := by
  obtain ⟨a, h, e⟩ := h
  have HE : Hid (sg (!s) a = r) := Lib.hid (by rw [← hr, ← e]; cases s <;> simp [sg])
  clear hr e
  go_enter Tryd.func54, Tryd.ntmps54
  go_wp2_with (first
    | (go_at_call 42; ((with_reducible refine (qMake _ (h.below (bel2 _ _ _))).mono ?_); rintro e w2 ⟨s2, A2, n2, c2, rfl, h2, k2, B2⟩; obtain ⟨hc, hf⟩ := bcell B2)))
  have X : Bx w2 (w.heap.size + 1) false none 0 0 := (Bx.newAt _ (by simp) false none 0 0).below B2
  exact bodyPost_ret (v := .agg #[.bool s2, .slice A2 n2 c2]) (by simp [results, Tryd.results54, go_sem, X.cell0, X.cell1]) rfl ⟨s2, A2, n2, c2, rfl, HE.out ▸ h2.st X _ _, by omega, st2 (bt (bel2 _ _ _) B2) (by simp) _ _⟩

set_option maxHeartbeats 400000 in
theorem qSign {w : World} {A : Option Addr} {n c : Nat} {s : Bool} {x r : Int} (h : Wr w s A n c x) (hr : cmpI x 0 = r) : Calls Tryd.prog 48 #[.agg #[.bool s, .slice A n c]] w (PI w r) := by
  obtain ⟨a, h, e1⟩ := h
  subst e1
  rcases sg_cases s a with ⟨rfl, e⟩ | ⟨ha, rfl, e⟩ | ⟨ha, rfl, e⟩
  · rw [e] at hr
    subst hr
    clear e
    go_enter Tryd.func48, Tryd.ntmps48
    go_wp2_with (first
      | (go_at_call 42; ((with_reducible refine (qMake _ (h.below (bel1 _ _))).mono ?_); rintro e w2 ⟨s2, A2, n2, c2, rfl, h2, k2, B2⟩; obtain rfl : n2 = 0 := by { have := h2.1.pos; rw [sg_natAbs] at this; omega })))
    go_ret
    exact ⟨rfl, bt (bel1 _ _) (bt B2 (bel1 _ _))⟩
  · rw [e] at hr
    subst hr
    clear e
    go_enter Tryd.func48, Tryd.ntmps48
    go_wp2_with (first
      | (go_at_call 42; ((with_reducible refine (qMake _ (h.below (bel1 _ _))).mono ?_); rintro e w2 ⟨s2, A2, n2, c2, rfl, h2, k2, B2⟩; have hpos : 0 < n2 := by { have := h2.1.pos; rw [sg_natAbs] at this; omega }; have hbig := h2.1.rd.big; obtain rfl : s2 = true := by { rw [h2.2]; simp [sg]; omega })))
    go_ret
    exact ⟨rfl, bt (bel1 _ _) (bt B2 (bel1 _ _))⟩
  · rw [e] at hr
    subst hr
    clear e
    go_enter Tryd.func48, Tryd.ntmps48
    go_wp2_with (first
      | (go_at_call 42; ((with_reducible refine (qMake _ (h.below (bel1 _ _))).mono ?_); rintro e w2 ⟨s2, A2, n2, c2, rfl, h2, k2, B2⟩; have hpos : 0 < n2 := by { have := h2.1.pos; rw [sg_natAbs] at this; omega }; have hbig := h2.1.rd.big; obtain rfl : s2 = false := by { rw [h2.2]; simp [sg] })))
    go_ret
    exact ⟨rfl, bt (bel1 _ _) (bt B2 (bel1 _ _))⟩

set_option maxHeartbeats 400000 in
theorem qAlike {w : World} {A B : Option Addr} {n c m d : Nat} {s t : Bool} {z : Int} (h : Wn w s A n c z) (k : Wn w t B m d z) : Calls Tryd.prog 28 #[.agg #[.bool s, .slice A n c], .agg #[.bool t, .slice B m d]] w (PB w true) := by
  obtain ⟨h, e1⟩ := h
  obtain ⟨k, e2⟩ := k
  obtain rfl : s = t := e1.trans e2.symm
  clear e1 e2
  have hs : (s == s) = true := by simp
  go_enter Tryd.func28, Tryd.ntmps28
  go_wp2_with (first
    | (go_at_call 55; ((with_reducible refine (rSame (h.below (bel2 _ _ _)) (k.below (bel2 _ _ _))).mono ?_); rintro e w2 ⟨rfl, B2⟩; obtain ⟨hc, hf⟩ := bcell B2)))
  go_ret
  exact ⟨rfl, bt (bel2 _ _ _) B2⟩

set_option maxHeartbeats 400000 in
theorem qMay {w : World} {A : Option Addr} {n c a : Nat} {s : Bool} {r : Bool} (h : Rd w A n c a) (hr : mayB s n a = r) : Calls Tryd.prog 47 #[.agg #[.bool s, .slice A n c]] w (PB w r) := by
  rcases Nat.eq_zero_or_pos n with e | hn
  · subst e
    rw [mayB_zero s h.bound] at hr
    subst hr
    go_enter Tryd.func47, Tryd.ntmps47
    go_wp2
    go_ret
    exact ⟨rfl, bel1 _ _⟩
  · obtain ⟨b, xs, h, rfl⟩ := h
    rw [mayB_pos s h.lim h.len hn] at hr
    have hbig := h.big
    have hcap := h.cap
    have hlt := h.lt hn
    obtain ⟨o, rfl, hcell⟩ := h.at hn
    have hck := hcell (n - 1) (by omega)
    clear hcell h
    have hi : ((n : Int) - 1).toNat = n - 1 := by omega
    revert hr hck
    generalize xs.getD (n - 1) 0 = x
    intro hr hck
    have hq : ((n : Int) == 0) = false := by have : (n : Int) ≠ 0 := by omega
                                             simpa using this
    have hne : b ≠ w.heap.size := by omega
    by_cases hx : x = 0
    · subst hx
      subst hr
      go_enter Tryd.func47, Tryd.ntmps47
      go_wp2
      go_ret
      exact ⟨rfl, bel1 _ _⟩
    · have hx' : ((x : Int) != 0) = true := by have : (x : Int) ≠ 0 := by omega
                                               simpa using this
      obtain rfl : r = true := hr.symm.trans hx'
      clear hr
      go_enter Tryd.func47, Tryd.ntmps47
      go_wp2
      go_ret
      exact ⟨rfl, bel1 _ _⟩

set_option maxHeartbeats 400000 in
theorem qfrom_pos (k : Nat) (w : World) (h : k < 9223372036854775808) : Calls Tryd.prog 78 #[.int .i64 (k : Int)] w (W1 w 2 (k : Int)) := by
  have hd : decide ((k : Int) < 0) = false := by simp
  go_enter Tryd.func78, Tryd.ntmps78
  go_wp2_with (first
    | (go_at_call 42; ((with_reducible refine (qMake false (two_rd _ (by simp) (k := k) (by omega) (by omega) (by omega))).mono ?_); rintro e w2 ⟨s2, A2, n2, c2, rfl, h2, k2, B2⟩; obtain ⟨hc, hf⟩ := bcell B2)))
  have X : Bx w2 w.heap.size false none 0 0 := ((Bx.new w false none 0 0).below (bel1 _ _)).below B2
  exact bodyPost_ret (v := .agg #[.bool s2, .slice A2 n2 c2]) (by simp [results, Tryd.results78, go_sem, X.cell0, X.cell1]) rfl ⟨s2, A2, n2, c2, rfl, h2.st X _ _, by omega, st2 (bt (bel2 _ _ _) B2) (Nat.le_refl _) _ _⟩
set_option maxHeartbeats 400000 in
theorem qfrom_neg (z : Int) (w : World) (h : -9223372036854775808 ≤ z) (h0 : z < 0) : Calls Tryd.prog 78 #[.int .i64 z] w (W1 w 2 z) := by
  have HE : Hid (sg true z.natAbs = z) := Lib.hid (by simp [sg]; omega)
  have HK : Hid (((z.natAbs : Nat) : Int) = -z) := Lib.hid (by omega)
  go_enter Tryd.func78, Tryd.ntmps78
  go_wp2_with (first
    | (go_at_call 42; ((with_reducible refine (qMake true (two_rd _ (by simp) (k := z.natAbs) (by omega) (by omega) (by omega))).mono ?_); rintro e w2 ⟨s2, A2, n2, c2, rfl, h2, k2, B2⟩; obtain ⟨hc, hf⟩ := bcell B2)))
  have X : Bx w2 w.heap.size false none 0 0 := ((Bx.new w false none 0 0).below (bel1 _ _)).below B2
  exact bodyPost_ret (v := .agg #[.bool s2, .slice A2 n2 c2]) (by simp [results, Tryd.results78, go_sem, X.cell0, X.cell1]) rfl ⟨s2, A2, n2, c2, rfl, HE.out ▸ h2.st X _ _, by omega, st2 (bt (bel2 _ _ _) B2) (Nat.le_refl _) _ _⟩
theorem qFrom (z : Int) (w : World) (h1 : -9223372036854775808 ≤ z) (h2 : z ≤ 9223372036854775807) : Calls Tryd.prog 78 #[.int .i64 z] w (W1 w 2 z) := by
  rcases Int.lt_or_le z 0 with h | h
  · exact qfrom_neg z w h1 h
  · have := qfrom_pos z.natAbs w (by omega)
    rwa [show ((z.natAbs : Nat) : Int) = z by omega] at this
end Go.Proofs.YteoeoppkefcmdaaDoor

/-
  Plain arithmetic of numbers times powers of two: how often a number can be halved, and the form with an odd number. No condition; no Go text.
-/
namespace Go.Proofs.YteoeoppkefcmdaaDoor
set_option linter.unusedVariables false

/-- How often a number can be halved (nought: never). -/
def v2 (n : Nat) : Nat := if _h : n = 0 then 0 else if n % 2 = 1 then 0 else v2 (n / 2) + 1
  termination_by n
  decreasing_by omega
theorem v2_zero : v2 0 = 0 := by rw [v2]; simp
theorem v2_odd {n : Nat} (h : n % 2 = 1) : v2 n = 0 := by rw [v2]; simp [h]
theorem v2_even {n : Nat} (h0 : n ≠ 0) (h : n % 2 = 0) : v2 n = v2 (n / 2) + 1 := by rw [v2]; simp [h0, h]
theorem v2_spec (n : Nat) (h0 : n ≠ 0) : n = n / 2 ^ v2 n * 2 ^ v2 n ∧ n / 2 ^ v2 n % 2 = 1 := by
  induction n using Nat.strongRecOn with
  | ind n ih =>
    rcases Nat.mod_two_eq_zero_or_one n with h | h
    · have h1 : n / 2 ≠ 0 := by omega
      obtain ⟨e1, e2⟩ := ih (n / 2) (by omega) h1
      rw [v2_even h0 h]
      have hd : n / 2 ^ (v2 (n / 2) + 1) = n / 2 / 2 ^ v2 (n / 2) := by rw [Nat.pow_succ, Nat.mul_comm, Nat.div_div_eq_div_mul]
      rw [hd]
      refine ⟨?_, e2⟩
      rw [Nat.pow_succ, ← Nat.mul_assoc, ← e1]
      omega
    · rw [v2_odd h]
      simpa using h
/-- Halved k times, where that leaves nothing over. -/
theorem v2_mul (k m : Nat) (hm : m % 2 = 1) : v2 (m * 2 ^ k) = k ∧ m * 2 ^ k / 2 ^ v2 (m * 2 ^ k) = m := by
  have key : v2 (m * 2 ^ k) = k := by
    induction k with
    | zero => simpa using v2_odd (n := m) hm
    | succ k ih =>
      have e : m * 2 ^ (k + 1) = 2 * (m * 2 ^ k) := by rw [Nat.pow_succ]; rw [← Nat.mul_assoc, Nat.mul_comm]
      have hp : 0 < 2 ^ k := Nat.pow_pos (by decide)
      have hm0 : 0 < m := by omega
      have hpos : 0 < m * 2 ^ k := Nat.mul_pos hm0 hp
      rw [v2_even (by omega) (by omega), show m * 2 ^ (k + 1) / 2 = m * 2 ^ k by omega, ih]
  refine ⟨key, ?_⟩
  rw [key]
  exact Nat.mul_div_cancel _ (Nat.pow_pos (by decide))
theorem v2_uniq {n m k : Nat} (hm : m % 2 = 1) (h : n = m * 2 ^ k) : v2 n = k ∧ n / 2 ^ v2 n = m := by subst h; exact v2_mul k m hm
theorem v2_pow_le {n : Nat} (h0 : n ≠ 0) : 2 ^ v2 n ≤ n := by
  obtain ⟨e, h1⟩ := v2_spec n h0
  have h3 : 1 ≤ n / 2 ^ v2 n := Nat.one_le_iff_ne_zero.2 (fun e0 => by rw [e0] at h1; cases h1)
  have h2 := Nat.mul_le_mul_right (2 ^ v2 n) h3
  rw [Nat.one_mul] at h2
  exact Nat.le_trans h2 (Nat.le_of_eq e.symm)
/-- While it has been halved less often than it can be, it is even; then it is odd. -/
theorem v2_step {n i : Nat} (h0 : n ≠ 0) (hi : i ≤ v2 n) : (n / 2 ^ i % 2 = 0 ↔ i < v2 n) ∧ n / 2 ^ i ≠ 0 := by
  obtain ⟨e, h1⟩ := v2_spec n h0
  have hpi : 0 < 2 ^ i := Nat.pow_pos (by decide)
  obtain ⟨j, hj⟩ : ∃ j, v2 n = i + j := ⟨v2 n - i, by omega⟩
  revert e h1
  generalize hM : n / 2 ^ v2 n = M
  intro e h1
  rw [hj, Nat.pow_add] at e
  have hd : n / 2 ^ i = M * 2 ^ j := by
    rw [e, Nat.mul_comm (2 ^ i), ← Nat.mul_assoc]
    exact Nat.mul_div_cancel _ hpi
  have hpj : 0 < 2 ^ j := Nat.pow_pos (by decide)
  have hM0 : 0 < M := by omega
  rw [hd]
  refine ⟨?_, by have := Nat.mul_pos hM0 hpj; omega⟩
  rcases Nat.eq_zero_or_pos j with rfl | hjp
  · simp; omega
  · obtain ⟨q, rfl⟩ : ∃ q, j = q + 1 := ⟨j - 1, by omega⟩
    have : M * 2 ^ (q + 1) = 2 * (M * 2 ^ q) := by rw [Nat.pow_succ, ← Nat.mul_assoc, Nat.mul_comm]
    rw [this]
    constructor
    · intro _; omega
    · intro _; omega

/-- The greatest exponent. -/
def most : Int := 4194304
/-- A number times a power of two, as an odd number and a power of two; nought where the exponent is beyond the bounds. -/
def mk (z e : Int) : Int × Int :=
  if z = 0 ∨ e < -4194304 ∨ 4194304 < e ∨ 4194304 < e + (v2 z.natAbs : Nat) then (0, 0) else (Int.ofNat (z.natAbs / 2 ^ v2 z.natAbs) * (if z < 0 then -1 else 1), e + (v2 z.natAbs : Nat))
theorem mk_zero (e : Int) : mk 0 e = (0, 0) := by unfold mk; simp
theorem mk_low {z e : Int} (h : e < -4194304) : mk z e = (0, 0) := by unfold mk; simp [h]
theorem mk_high {z e : Int} (h : 4194304 < e) : mk z e = (0, 0) := by unfold mk; simp [h]
theorem mk_over {z e : Int} (h : 4194304 < e + (v2 z.natAbs : Nat)) : mk z e = (0, 0) := by unfold mk; simp [h]
theorem mk_in {z e : Int} (h0 : z ≠ 0) (h1 : -4194304 ≤ e) (h2 : e + (v2 z.natAbs : Nat) ≤ 4194304) :
    (mk z e).2 = e + (v2 z.natAbs : Nat) ∧ (mk z e).1.natAbs = z.natAbs / 2 ^ v2 z.natAbs ∧ ((mk z e).1 < 0 ↔ z < 0) ∧ (mk z e).1 ≠ 0 ∧ z = (mk z e).1 * 2 ^ v2 z.natAbs := by
  have hc : ¬ (z = 0 ∨ e < -4194304 ∨ 4194304 < e ∨ 4194304 < e + (v2 z.natAbs : Nat)) := by omega
  unfold mk
  rw [if_neg hc]
  obtain ⟨e1, e2⟩ := v2_spec z.natAbs (by omega)
  have hp : 0 < 2 ^ v2 z.natAbs := Nat.pow_pos (by decide)
  revert e1 e2
  generalize z.natAbs / 2 ^ v2 z.natAbs = M
  intro e1 e2
  have ez : (z.natAbs : Int) = (M : Int) * 2 ^ v2 z.natAbs := by
    have := congrArg (Nat.cast : Nat → Int) e1
    simpa using this
  by_cases hz : z < 0
  · simp only [hz, if_true]
    refine ⟨trivial, by simp, by simp <;> omega, by simp <;> omega, ?_⟩
    have : z = -(z.natAbs : Int) := by omega
    rw [show (Int.ofNat M * -1 : Int) = -(M : Int) by simp, Int.neg_mul, ← ez]
    exact this
  · simp only [hz, if_false]
    refine ⟨trivial, by simp, by simp <;> omega, by simp <;> omega, ?_⟩
    have : z = (z.natAbs : Int) := by omega
    rw [show (Int.ofNat M * 1 : Int) = (M : Int) by simp, ← ez]
    exact this
end Go.Proofs.YteoeoppkefcmdaaDoor

/-
  The document's answers of layer 1: what Sub and Mul do, said of numbers.
-/
namespace Go.Proofs.YteoeoppkefcmdaaDoor
open Go.RowKit
set_option linter.unusedVariables false

theorem rSub_lt {w : World} {A1 A2 : Option Addr} {n m c1 c2 a b : Nat} (h1 : Rd w A1 n c1 a) (h2 : Rd w A2 m c2 b) (h : a < b) :
    Calls Tryd.prog 86 #[.slice A1 n c1, .slice A2 m c2] w fun e w' => e = .returned (.tuple #[.slice none 0 0, .bool false]) ∧ Below w.heap.size w w' := by
  have HC := Lib.hid (rCmp h1 h2 (cmpI_lt (by omega)))
  clear h1 h2 h
  go_enter Tryd.func86, Tryd.ntmps86
  go_wp2_with (go_at_call 94; ((with_reducible refine HC.out.mono ?_); rintro e w3 ⟨rfl, B3⟩))
  go_ret2
  exact ⟨rfl, B3⟩

theorem take_val {ys : List Nat} {n : Nat} (h : val ys < 4294967296 ^ n) : val (ys.take n) = val ys := by
  rcases Nat.le_total ys.length n with e | e
  · exact val_take_all e
  · have h1 := val_take_drop ys e
    rcases Nat.eq_zero_or_pos (val (ys.drop n)) with e0 | e0
    · rw [e0] at h1; omega
    · have := Nat.le_mul_of_pos_right (4294967296 ^ n) e0
      omega

theorem rsub_step {p A Y v x y l t u : Nat} (h : A + l * p = v + Y) (hx : x + u * 4294967296 = t + y + l) : (A + p * x) + u * (p * 4294967296) = (v + p * t) + (Y + p * y) := by
  have e : p * (x + u * 4294967296) = p * (t + y + l) := by rw [hx]
  grind

def RsubInv (w : World) (xs ys : List Nat) (k l : Nat) (v : Value) (wr : World) : Prop :=
  ∃ A c zs, v = .slice A k c ∧ Ar wr w.heap.size A k c zs ∧ Below w.heap.size w wr ∧ l ≤ 1 ∧ val (xs.take k) + l * 4294967296 ^ k = val zs + val (ys.take k)

set_option maxHeartbeats 1000000 in
theorem rSub {w : World} {A1 A2 : Option Addr} {n m c1 c2 a b r : Nat} (h1 : Rd w A1 n c1 a) (h2 : Rd w A2 m c2 b) (h : b ≤ a) (hr : a - b = r) :
    Calls Tryd.prog 86 #[.slice A1 n c1, .slice A2 m c2] w (P1T w n r) := by
  obtain ⟨z, hz, hz0⟩ := cmpI_ge h
  have HC := Lib.hid (rCmp h1 h2 hz)
  have hab := h1.bound
  obtain ⟨b1, xs, h1, rfl⟩ := h1
  obtain ⟨b2, ys, h2, rfl⟩ := h2
  have hbn := h1.big
  have H1 := Lib.hid h1.len
  have HYT := Lib.hid (take_val (ys := ys) (n := n) (by omega))
  have HLE := Lib.hid h
  have HAB := Lib.hid hab
  have HRR := Lib.hid hr
  clear hz h hab hr
  go_enter Tryd.func86, Tryd.ntmps86
  go_wp2_with (go_at_call 94; ((with_reducible refine HC.out.mono ?_); rintro e w0 ⟨rfl, B0⟩; have HB0 := Lib.hid B0; clear B0))
  clear HC
  replace h1 := h1.below HB0.out
  replace h2 := h2.below HB0.out
  go_loopw [6, 7, 8] (fun v u i wr => ∃ k l : Nat, k ≤ n ∧ i = .int .i64 k ∧ u = .int .u64 l ∧ RsubInv w0 xs ys k l v wr) (fun _ _ i _ => n - (intOf i).toNat)
  case atStart => exact ⟨0, 0, Nat.zero_le _, rfl, rfl, none, 0, [], rfl, Ar.nil _ _, Below.refl _ _, by omega, by simp [val]⟩
  case round =>
    obtain ⟨k, l, hk, rfl, rfl, hI⟩ := hrel
    obtain ⟨A, c, zs, rfl, ha, hbl, hl, hv⟩ := hI
    have HV := Lib.hid hv
    have HA := Lib.hid ha
    have HB := Lib.hid hbl
    clear hv ha hbl
    by_cases hlt : k < n
    · have s1 := h1.below HB.out
      have s2 := h2.below HB.out
      have bx := h1.lim.getD k
      have by' := h2.lim.getD k
      have HG1 := Lib.hid (rAt wr b1 A1 n c1 xs s1 k (by omega))
      have HG2 := Lib.hid (rAt wr b2 A2 m c2 ys s2 k (by omega))
      have HST : Hid (∀ x y, xs.getD k 0 = x → ys.getD k 0 = y → val (xs.take (k + 1)) = val (xs.take k) + 4294967296 ^ k * x ∧ val (ys.take (k + 1)) = val (ys.take k) + 4294967296 ^ k * y) := fun x y hx hy => by
        rw [val_take_more, val_take_more, hx, hy]; exact ⟨rfl, rfl⟩
      have HST' := Lib.hid (HST.out _ _ rfl rfl)
      clear HST s1 s2
      revert HG1 HG2 bx by' HST'
      generalize xs.getD k 0 = x
      generalize ys.getD k 0 = y
      intro bx by' HG1 HG2 HST
      obtain ⟨t, ht, e1⟩ : ∃ t : Nat, t = (4294967296 + x - y - l) % 4294967296 ∧ ((4294967296 : Int) + x - y - l) % 4294967296 = t := ⟨_, rfl, by omega⟩
      obtain ⟨u, hu, e2⟩ : ∃ u : Nat, u = (4294967296 + x - y - l) / 4294967296 ∧ ((4294967296 : Int) + x - y - l) / 4294967296 = u := ⟨_, rfl, by omega⟩
      have bt : t < 4294967296 := by omega
      have bu : u ≤ 1 := by omega
      have e3 : (t : Int) % 4294967296 = t := by omega
      have HN : Hid (∀ A3 c3 w3, Ar w3 w0.heap.size A3 (k + 1) c3 (zs ++ [t]) → Below w0.heap.size (wr.alloc (.cells #[.int .u32 (t : Int)] 51)) w3 → RsubInv w0 xs ys (k + 1) (1 - u) (.slice A3 (k + 1) c3) w3) := by
        intro A3 c3 w3 ha3 hb3
        refine ⟨A3, c3, _, rfl, ha3, (HB.out.alloc HB.out.size _).trans hb3, by omega, ?_⟩
        rw [val_snoc, HA.out.len, HST.out.1, HST.out.2, Nat.pow_succ]
        exact rsub_step HV.out (by omega)
      clear ht hu HV HST
      have sl1 := lit1 wr t bt
      go_wp2_with (first
        | (go_at_call 93; ((with_reducible refine HG1.out.mono ?_); rintro e w' ⟨rfl, rfl⟩))
        | (go_at_call 93; ((with_reducible refine HG2.out.mono ?_); rintro e w' ⟨rfl, rfl⟩))
        | (with_reducible refine wpList_app rfl (.tmp 30) (.tmp 34) 22 rfl Tryd.underlying22 rfl rfl (HA.out.alloc _) sl1 (by omega) (HB.out.alloc HB.out.size _).size ?_; intro A3 c3 w3 ha3 hb3; have HN3 := Lib.hid (HN.out A3 c3 w3 ha3 hb3); clear ha3 hb3))
      go_roundw
      case rel => exact ⟨k + 1, 1 - u, by omega, by go_num, by first | go_num | (congr 1; omega), HN3.out⟩
      case measure => simp [intOf]; omega
    · obtain rfl : k = n := by omega
      obtain ⟨g, hs⟩ := HA.out.slice (by omega)
      have hv := HV.out
      have hzl := val_lt HA.out.lim
      rw [val_take_all (by rw [H1.out]; omega), HYT.out] at hv
      rw [HA.out.len] at hzl
      have hvv : val zs = r := by
        rw [← HRR.out]
        have := HLE.out
        rcases Nat.eq_zero_or_pos l with e | e
        · subst e; omega
        · have := Nat.mul_le_mul_right (4294967296 ^ k) e
          omega
      have HT := Lib.hid (rTrim ⟨g, zs, hs, hvv⟩)
      clear hv HV hs hzl hvv
      go_wp2_with (go_at_call 69; ((with_reducible refine HT.out.mono ?_); rintro e w4 ⟨A4, n4, c4, rfl, hm4, hk4, hb4⟩))
      go_ret2
      exact ⟨A4, n4, c4, rfl, hm4, hk4, HB0.out.trans ((HB.out.trans (hb4.mono HB.out.size)).mono HB0.out.size)⟩

theorem lit_ar (W : World) (base x : Nat) (hx : x < 4294967296) (hb : base ≤ W.heap.size) : Ar (W.alloc (.cells #[.int .u32 (x : Int)] 51)) base (some ⟨W.heap.size, 0, none⟩) 1 1 [x] :=
  ⟨⟨rfl, Or.inr ⟨W.heap.size, 1, _, rfl, hb, heap_alloc_new W _, Nat.le_refl _, by decide, rfl, rfl⟩⟩, Lim.cons hx Lim.nil⟩

/-- The numbers of a step of a row, none of which wraps. -/
theorem row_sums {x f cy : Nat} (hx : x < 4294967296) (hf : f < 4294967296) (hc : cy < 4294967296) :
    ∃ p s t u : Nat, Hid (s = x * f + cy) ∧ Hid (t = s % 4294967296) ∧ Hid (u = s / 4294967296) ∧ t < 4294967296 ∧ u < 4294967296 ∧ IntKind.u64.wrap ((x : Int) * f) = p ∧ IntKind.u64.wrap ((p : Int) + cy) = s ∧ (s : Int) % 4294967296 = t ∧ (t : Int) % 4294967296 = t ∧ (s : Int) / 4294967296 = u := by
  have hp := prod_lt hx hf
  refine ⟨x * f, x * f + cy, (x * f + cy) % 4294967296, (x * f + cy) / 4294967296, rfl, rfl, rfl, by omega, by omega, ?_, ?_, by omega, by omega, by omega⟩
  · have := wrap_u64_nat (x * f) (by omega); simpa using this
  · have := wrap_u64_nat (x * f + cy) (by omega); simpa using this

/-- One step of a row. -/
theorem row_step {p A v x c f : Nat} (h : v + c * p = A * f) : (v + p * ((x * f + c) % 4294967296)) + (x * f + c) / 4294967296 * (p * 4294967296) = (A + p * x) * f := by
  have e := Nat.mod_add_div (x * f + c) 4294967296
  have e2 : p * ((x * f + c) % 4294967296 + 4294967296 * ((x * f + c) / 4294967296)) = p * (x * f + c) := by rw [e]
  grind

theorem mul_ev (a f d : Nat) : 0 + 4294967296 * (a * d) + a * f = a * (f + 4294967296 * d) := by grind

def RowInv (w : World) (xs : List Nat) (f k cy : Nat) (v : Value) (wr : World) : Prop :=
  ∃ A c zs, v = .slice A k c ∧ Ar wr w.heap.size A k c zs ∧ Below w.heap.size w wr ∧ cy < 4294967296 ∧ val zs + cy * 4294967296 ^ k = val (xs.take k) * f

def RmulInv (w : World) (n m : Nat) (xs ys : List Nat) (k : Nat) (v : Value) (wr : World) : Prop :=
  ∃ A l c, v = .slice A l c ∧ Rd wr A l c (val xs * val (ys.drop (m - k))) ∧ l ≤ n + m + 2 ∧ Below w.heap.size w wr

set_option maxHeartbeats 2000000 in
theorem rMul {w : World} {A1 A2 : Option Addr} {n m c1 c2 a b r : Nat} (h1 : Rd w A1 n c1 a) (h2 : Rd w A2 m c2 b) (hn : n ≤ 268435456) (hm : m ≤ 268435456) (hr : a * b = r) :
    Calls Tryd.prog 74 #[.slice A1 n c1, .slice A2 m c2] w (P1 w (n + m) r) := by
  have hL := limbs_mul_len h1.bound h2.bound
  obtain ⟨b1, xs, h1, rfl⟩ := h1
  obtain ⟨b2, ys, h2, rfl⟩ := h2
  have H1 := Lib.hid h1.len
  have H2 := Lib.hid h2.len
  rw [hr] at hL
  have HRR := Lib.hid hr
  clear hr
  have HLen : Hid (∀ k, (limbs (val xs * val (ys.drop k))).length ≤ n + m) := fun k => by
    have e1 := val_lt h1.lim
    have e2 := val_lt (h2.lim.drop k)
    rw [H1.out] at e1
    have := limbs_mul_len e1 e2
    have e3 : (ys.drop k).length ≤ m := by rw [List.length_drop, H2.out]; omega
    omega
  go_enter Tryd.func74, Tryd.ntmps74
  go_wp2
  go_loopw [5, 6] (fun v i wr => ∃ k : Nat, k ≤ m ∧ i = .int .i64 ((m : Int) - 1 - k) ∧ RmulInv w n m xs ys k v wr) (fun _ i _ => (intOf i + 1).toNat)
  case atStart => exact ⟨0, Nat.zero_le _, by go_num, none, 0, 0, rfl, by rw [List.drop_of_length_le (by rw [H2.out]; omega), val_nil, Nat.mul_zero]; exact Nm.zero.rd, by omega, Below.refl _ _⟩
  case round =>
    obtain ⟨k, hk, rfl, hI⟩ := hrel
    obtain ⟨A, l, c, rfl, hs, hl, hbl⟩ := hI
    obtain ⟨wo, rfl⟩ : ∃ wo : World, wo = wr := ⟨_, rfl⟩
    have HB := Lib.hid hbl
    clear hbl
    by_cases hlt : k < m
    · obtain ⟨bo, os, so, hso⟩ := hs
      have HSO := Lib.hid hso
      clear hso
      have hal := alloc_below wo (.cells #[.int .u32 ((0 : Nat) : Int)] 51)
      have ar0 := lit_ar wo w.heap.size 0 (by decide) HB.out.size
      have so0 := so.below hal
      have i0 : 0 ≤ (m : Int) - 1 - k := by omega
      go_wp2_with (with_reducible refine wpList_app rfl (.tmp 20) (.tmp 21) 22 rfl Tryd.underlying22 rfl rfl ar0 so0 (by omega) (HB.out.alloc HB.out.size _).size ?_; intro A3 c3 w3 ha3 hb3)
      have HB3 : Hid (Below w.heap.size w w3) := (HB.out.alloc HB.out.size _).trans hb3
      have HA3 := Lib.hid ha3
      have s1 := h1.below HB3.out
      have s2 := h2.below HB3.out
      obtain ⟨ob2, rfl, j2⟩ := s2.at (by omega)
      have g2 := j2 (m - 1 - k) (by omega)
      have bf := h2.lim.getD (m - 1 - k)
      have HD : Hid (∀ f, ys.getD (m - 1 - k) 0 = f → val (ys.drop (m - (k + 1))) = f + 4294967296 * val (ys.drop (m - k))) := fun f hf => by
        have := val_drop (xs := ys) (k := m - 1 - k) (by rw [H2.out]; omega)
        rw [hf, show m - 1 - k + 1 = m - k by omega] at this
        rw [show m - (k + 1) = m - 1 - k by omega]
        exact this
      have HD' := Lib.hid (HD.out _ rfl)
      clear HD j2 ha3 hb3 so so0 ar0 hal s2
      revert g2 bf HD'
      generalize ys.getD (m - 1 - k) 0 = f
      intro g2 bf HD
      have i1 : ((m : Int) - 1 - k).toNat = m - 1 - k := by omega
      have i2 : (m : Int) - 1 - k < m := by omega
      go_loopw [8, 9, 10] (fun v u i wr2 => ∃ j cy : Nat, j ≤ n ∧ i = .int .i64 j ∧ u = .int .u64 cy ∧ RowInv w3 xs f j cy v wr2) (fun _ _ i _ => n - (intOf i).toNat)
      case atStart => exact ⟨0, 0, Nat.zero_le _, rfl, rfl, none, 0, [], rfl, Ar.nil _ _, Below.refl _ _, by omega, by simp [val]⟩
      case round =>
        obtain ⟨j, cy, hj, rfl, rfl, hI⟩ := hrel
        obtain ⟨A4, c4, zs, rfl, ha, hbl, hcy, hv⟩ := hI
        have HV := Lib.hid hv
        have HA := Lib.hid ha
        have HBr := Lib.hid hbl
        clear hv ha hbl
        by_cases hjn : j < n
        · have t1 := s1.below HBr.out
          have HB4 : Hid (Below w.heap.size w wr) := HB3.out.trans (HBr.out.mono HB3.out.size)
          have gf : wr.cell? ⟨b2, ob2 + (m - 1 - k), none⟩ = some (.int .u32 (f : Int)) := (HBr.out.cell (by
            have := block_lt_of_cell g2
            exact this)).trans g2
          obtain ⟨o1, rfl, j1⟩ := t1.at (by omega)
          have g1 := j1 j hjn
          have bx := h1.lim.getD j
          have HST : Hid (∀ x, xs.getD j 0 = x → val (xs.take (j + 1)) = val (xs.take j) + 4294967296 ^ j * x) := fun x hx => by
            rw [val_take_more, hx]
          have HST' := Lib.hid (HST.out _ rfl)
          clear HST j1 t1
          revert g1 bx HST'
          generalize xs.getD j 0 = x
          intro g1 bx HST
          obtain ⟨p, s, t, u, HS, HT, HU, bt, bu, e1, e2, e3, e3', e4⟩ := row_sums bx bf hcy
          have HN : Hid (∀ q A5 c5 w5, Ar w5 w3.heap.size A5 (j + 1) c5 (zs ++ [t]) → Below w3.heap.size ((wr.drewN q).alloc (.cells #[.int .u32 (t : Int)] 51)) w5 → RowInv w3 xs f (j + 1) u (.slice A5 (j + 1) c5) w5) := by
            intro q A5 c5 w5 ha5 hb5
            refine ⟨A5, c5, _, rfl, ha5, ((below_drewN HBr.out q).alloc HBr.out.size _).trans hb5, bu, ?_⟩
            rw [val_snoc, HA.out.len, HST.out, Nat.pow_succ, HT.out, HU.out, HS.out]
            exact row_step HV.out
          clear HST HV HS HT HU
          have HA' : Hid (∀ q, Ar ((wr.drewN q).alloc (.cells #[.int .u32 (t : Int)] 51)) w3.heap.size A4 j c4 zs) := fun q => Ar.alloc (w := wr.drewN q) HA.out _
          have HSL : Hid (∀ q, Sl ((wr.drewN q).alloc (.cells #[.int .u32 (t : Int)] 51)) wr.heap.size (some ⟨wr.heap.size, 0, none⟩) 1 1 [t]) := fun q => lit1 (wr.drewN q) t bt
          have HSZ : Hid (∀ q, w3.heap.size ≤ ((wr.drewN q).alloc (.cells #[.int .u32 (t : Int)] 51)).heap.size) := fun q => ((below_drewN HBr.out q).alloc HBr.out.size _).size
          go_wp2
          go_quiet (fail)
          go_wp2_with (with_reducible refine wpList_app rfl (.tmp 43) (.tmp 47) 22 rfl Tryd.underlying22 rfl rfl (HA'.out _) (HSL.out _) (by omega) (HSZ.out _) ?_; intro A5 c5 w5 ha5 hb5; have HN5 := Lib.hid (HN.out _ A5 c5 w5 ha5 hb5); clear ha5 hb5)
          go_roundw
          case rel => exact ⟨j + 1, u, by omega, by go_num, rfl, HN5.out⟩
          case measure => simp [intOf]; omega
        · obtain rfl : j = n := by omega
          have ecy : (cy : Int) % 4294967296 = cy := by omega
          have HBA : Hid (Below w3.heap.size w3 (wr.alloc (.cells #[.int .u32 (cy : Int)] 51))) := HBr.out.alloc HBr.out.size _
          have sl1 := lit1 wr cy hcy
          have HV2 : Hid (val (zs ++ [cy]) = val xs * f) := by
            show _ = _
            have := HV.out
            rw [val_take_all (by rw [H1.out]; omega)] at this
            rw [val_snoc, HA.out.len, Nat.mul_comm, this]
          have HADD : Hid (∀ A5 c5 w5, Ar w5 w3.heap.size A5 (j + 1) c5 (zs ++ [cy]) → Below w3.heap.size (wr.alloc (.cells #[.int .u32 (cy : Int)] 51)) w5 →
              Calls Tryd.prog 84 #[.slice A3 (1 + l) c3, .slice A5 (j + 1) c5] w5 (fun e w6 => ∃ A6 l6 c6, e = .returned (.slice A6 l6 c6) ∧ RmulInv w j m xs ys (k + 1) (.slice A6 l6 c6) w6)) := by
            intro A5 c5 w5 ha5 hb5
            have hb35 : Below w3.heap.size w3 w5 := HBA.out.trans hb5
            obtain ⟨gu, su⟩ := (HA3.out.all hb35).slice (by omega)
            obtain ⟨gr, sr⟩ := ha5.slice (by omega)
            refine (rAdd ⟨gu, _, su, rfl⟩ ⟨gr, _, sr, HV2.out⟩ (by omega) (by omega)).mono ?_
            rintro e w6 ⟨A6, l6, c6, rfl, m6, k6, b6⟩
            have ev : val ([0] ++ os) + val xs * f = val xs * val (ys.drop (m - (k + 1))) := by
              rw [HD.out, List.singleton_append, val_cons, HSO.out]
              exact mul_ev _ _ _
            rw [ev] at m6
            have := m6.len
            have := HLen.out (m - (k + 1))
            exact ⟨A6, l6, c6, rfl, A6, l6, c6, rfl, m6.rd, by omega, (HB3.out.trans (hb35.mono HB3.out.size)).trans (b6.mono (Nat.le_trans HB3.out.size hb35.size))⟩
          clear HV HV2 HD
          go_wp2_with (first
            | (with_reducible refine wpList_app rfl (.tmp 51) (.tmp 54) 22 rfl Tryd.underlying22 rfl rfl (HA.out.alloc _) sl1 (by omega) HBA.out.size ?_; intro A5 c5 w5 ha5 hb5; have HX5 := Lib.hid (HADD.out A5 c5 w5 ha5 hb5); clear ha5 hb5)
            | (go_at_call 84; ((with_reducible refine HX5.out.mono ?_); rintro e w6 ⟨A6, l6, c6, rfl, hR⟩; have HR6 := Lib.hid hR; clear hR)))
          go_roundw
          case rel => exact ⟨k + 1, by omega, by go_num, HR6.out⟩
          case measure => simp [intOf]; omega
    · obtain rfl : k = m := by omega
      rw [Nat.sub_self, List.drop_zero, HRR.out] at hs
      have HT := Lib.hid (rTrim hs)
      clear hs
      go_wp2_with (go_at_call 69; ((with_reducible refine HT.out.mono ?_); rintro e w4 ⟨A4, n4, c4, rfl, hm4, hk4, hb4⟩))
      go_ret
      have := hm4.len
      exact ⟨A4, n4, c4, rfl, hm4, by omega, HB.out.trans (hb4.mono HB.out.size)⟩
end Go.Proofs.YteoeoppkefcmdaaDoor

/-
  The document's answers of layer 1: what Len does, said of numbers.
-/
namespace Go.Proofs.YteoeoppkefcmdaaDoor
open Go.RowKit
set_option linter.unusedVariables false

set_option maxHeartbeats 1000000 in
theorem rLen {w : World} {A1 : Option Addr} {n c1 a : Nat} {z : Int} (h1 : Rd w A1 n c1 a) (hz : ((blen a : Nat) : Int) = z) : Calls Tryd.prog 83 #[.slice A1 n c1] w (PI w z) := by
  subst hz
  have HT1 := Lib.hid (rTrim h1)
  have hbl := h1.blen_le
  have hn : n ≤ 1099511627776 := by obtain ⟨_, _, h, _⟩ := h1; exact h.big
  clear h1
  go_enter Tryd.func83, Tryd.ntmps83
  go_wp2_with fail
  refine HT1.out.mono ?_
  rintro e w3 ⟨A3, p, c3, rfl, s3, k3, B3⟩
  have HB := Lib.hid B3
  clear B3
  have l3 := s3.len
  by_cases h0 : a = 0
  · obtain rfl : p = 0 := by rw [← l3, h0, limbs_zero]; rfl
    have HZ : Hid ((0 : Int) = ((blen a : Nat) : Int)) := by show _ = _; rw [h0]; rfl
    clear h0 l3 s3 HT1
    go_wp2
    go_ret
    exact ⟨ret_int HZ.out, HB.out⟩
  · have hp : p ≠ 0 := fun e => h0 (limbs_length_zero.1 (by omega))
    have hp0 : ((p : Int) == 0) = false := by simpa using hp
    have HL := blen_limbs h0
    rw [l3] at HL
    obtain ⟨b3, s3⟩ := s3
    obtain ⟨o, rfl, hc⟩ := s3.at (by omega)
    have hck := hc (p - 1) (by omega)
    have hx := (lim_limbs a).getD (p - 1)
    clear hc s3 h0 l3 HT1
    obtain ⟨x, hxe⟩ : ∃ x, (limbs a).getD (p - 1) 0 = x := ⟨_, rfl⟩
    rw [hxe] at HL hck hx
    clear hxe
    have i1 : ((p : Int) - 1).toNat = p - 1 := by omega
    obtain ⟨L, hL⟩ : ∃ L, blen a = L := ⟨_, rfl⟩
    rw [hL] at HL hbl
    have HLa := Lib.hid hL
    clear hL
    have HLL := Lib.hid HL
    clear HL
    go_wp2
    go_loop [4, 5] (fun v u => ∃ t j : Nat, u = .int .u32 t ∧ v = .int .i64 j ∧ t < 4294967296 ∧ j + blen t = L) (fun _ u => (intOf u).toNat)
    case atStart => exact ⟨x, (p - 1) * 32, rfl, by go_num, hx, HLL.out.symm⟩
    case round =>
      obtain ⟨t, j, rfl, rfl, ht, hj⟩ := hrel
      by_cases ht0 : t = 0
      · have HJ : Hid ((j : Int) = ((blen a : Nat) : Int)) := by show _ = _; rw [HLa.out, ← hj, ht0]; simp [blen]
        subst ht0
        clear hj
        go_wp2
        go_ret
        exact ⟨ret_int HJ.out, HB.out⟩
      · have hh := blen_half ht0
        have HJ : Hid (j + 1 + blen (t / 2) = L) := by show _ = _; omega
        have hjb : j ≤ n * 32 := by omega
        have ht1 : 0 < t := by omega
        clear hj hh ht0
        go_wp2
        go_round
        case rel => exact ⟨t / 2, j + 1, by go_num, by go_num, by omega, HJ.out⟩
        case measure => simp [intOf]; omega
end Go.Proofs.YteoeoppkefcmdaaDoor

/-
  The document's answers of layer 1: what bit, set, Div, Shl, Shr and Root do, said of numbers.
-/
namespace Go.Proofs.YteoeoppkefcmdaaDoor
open Go.RowKit
set_option linter.unusedVariables false

/-- Bit i of a number, off its limbs. -/
theorem bit_limb {xs : List Nat} (hl : Lim xs) (i : Nat) : xs.getD (i / 32) 0 / 2 ^ (i % 32) % 2 = val xs / 2 ^ i % 2 := by
  have h1 : xs.getD (i / 32) 0 = val xs / 4294967296 ^ (i / 32) % 4294967296 := by
    rw [← val_drop_div hl]
    rcases Nat.lt_or_ge (i / 32) xs.length with h | h
    · rw [val_drop h]
      have := hl.getD (i / 32)
      omega
    · rw [getD_beyond h, List.drop_eq_nil_of_le h]; rfl
  have h2 : 2 ^ i = 4294967296 ^ (i / 32) * 2 ^ (i % 32) := by rw [← pow_split, show 32 * (i / 32) + i % 32 = i by omega]
  rw [h1, h2, ← Nat.div_div_eq_div_mul]
  generalize val xs / 4294967296 ^ (i / 32) = y
  have hs : i % 32 < 32 := Nat.mod_lt _ (by decide)
  generalize i % 32 = s at hs
  have e : 4294967296 = 2 ^ s * 2 ^ (32 - s) := by rw [← Nat.pow_add, show s + (32 - s) = 32 by omega]
  rw [e, Nat.mod_mul_right_div_self]
  have e2 : 2 ^ (32 - s) = 2 * 2 ^ (31 - s) := by rw [show 32 - s = (31 - s) + 1 by omega, Nat.pow_succ, Nat.mul_comm]
  rw [e2, Nat.mod_mul_right_mod]

set_option maxHeartbeats 400000 in
theorem rBit {w : World} {A1 : Option Addr} {n c1 a : Nat} {t : Bool} (h1 : Rd w A1 n c1 a) (i : Nat) (hi : i ≤ 34359738368) (ht : decide (a / 2 ^ i % 2 = 1) = t) :
    Calls Tryd.prog 85 #[.slice A1 n c1, .int .i64 (i : Int)] w fun e w' => e = .returned (.bool t) ∧ Below w.heap.size w w' := by
  obtain ⟨b1, xs, h1, rfl⟩ := h1
  have HA := rAt w b1 A1 n c1 xs h1 (i / 32) (by omega)
  have hb := bit_limb h1.lim i
  have hx := h1.lim.getD (i / 32)
  rw [← hb] at ht
  clear hb h1
  revert HA hx ht
  generalize xs.getD (i / 32) 0 = x
  intro ht HA hx
  have HA := Lib.hid HA
  obtain ⟨q, hq⟩ : ∃ q, i / 32 = q := ⟨_, rfl⟩
  rw [hq] at HA
  have eq : (i : Int) / 32 = q := by omega
  clear hq
  obtain ⟨s, es, hs, hse⟩ : ∃ s : Nat, (i : Int) % 32 = s ∧ s < 32 ∧ Hid (s = i % 32) := ⟨i % 32, by omega, by omega, rfl⟩
  obtain ⟨y, ey, hye⟩ : ∃ y : Nat, (x : Int) / 2 ^ s = y ∧ Hid (y = x / 2 ^ s) := ⟨x / 2 ^ s, by simp, rfl⟩
  have HT : Hid (((y : Int) % 2 == 1) = t) := by
    show _ = _
    rw [← ht, ← hse.out, ← hye.out, Bool.eq_iff_iff]
    simp
    omega
  clear ht
  go_enter Tryd.func85, Tryd.ntmps85
  go_wp2_with (go_at_call 93; ((with_reducible refine HA.out.mono ?_); rintro e w' ⟨rfl, rfl⟩))
  go_ret
  exact ⟨by rw [← HT.out]; rfl, Below.refl _ _⟩

/-- A row of the call's own, one limb of it turned. -/
theorem Ar.set {w : World} {base n c : Nat} {A : Option Addr} {l : List Nat} (h : Ar w base A n c l) {i : Nat} (hi : i < n) :
    ∃ g, A = some ⟨g, 0, none⟩ ∧ base ≤ g ∧ w.cell? ⟨g, i, none⟩ = some (.int .u32 (l.getD i 0 : Nat)) ∧ w.frozen? ⟨g, i, none⟩ = false ∧
      ∀ x : Nat, x < 4294967296 → Ar (w.setCell ⟨g, i, none⟩ (.int .u32 (x : Int))) base A n c (l.set i x) := by
  have hl := h.len
  rcases h.1.2 with ⟨h1, h2⟩ | ⟨g, cap, cur, hv, hg, hh, hc, hm, hs, ht⟩
  · omega
  · injection hv with e1 e2 e3
    subst e1; subst e3
    refine ⟨g, rfl, hg, ?_, by simp [World.frozen?, hh], fun x hx => ⟨⟨by simp [hl], Or.inr ⟨g, c, cur.setIfInBounds i (.int .u32 (x : Int)), rfl, hg, ?_, hc, hm, by simpa using hs, ?_⟩⟩, h.2.set i hx⟩⟩
    · rw [cell_of_row w g i _ _ (0, 0) hh]
      have h2 : (cur.toList.take (n * 1))[i]? = (l.map u32)[i]? := by rw [ht]
      rw [List.getElem?_take, if_pos (by omega), List.getElem?_map] at h2
      rw [← Array.getElem?_toList, h2, List.getD_eq_getElem?_getD]
      rcases hq : l[i]? with _ | y
      · rw [List.getElem?_eq_none_iff] at hq; omega
      · simp [u32]
    · simp [World.setCell, Array.getElem?_modify, hh]
    · rw [Array.toList_setIfInBounds, List.take_set, ht, List.map_set]
      rfl

def SetInv (w : World) (xs : List Nat) (q : Nat) (v : Value) (wr : World) : Prop :=
  ∃ A c k, v = .slice A (xs.length + k) c ∧ Ar wr w.heap.size A (xs.length + k) c (xs ++ List.replicate k 0) ∧ Below w.heap.size w wr ∧ (0 < k → xs.length + k ≤ q + 1)

theorem set_val {l : List Nat} {q x : Nat} (hq : q < l.length) : val (l.set q (l.getD q 0 + x)) = val l + 4294967296 ^ q * x := by
  have h1 := val_take_drop l (k := q) (by omega)
  have h2 := val_take_drop (l.set q (l.getD q 0 + x)) (k := q) (by simp; omega)
  rw [List.take_set_of_le (Nat.le_refl q), val_drop (by simp; omega), List.drop_set_of_lt (by omega)] at h2
  rw [val_drop hq] at h1
  have e : (l.set q (l.getD q 0 + x)).getD q 0 = l.getD q 0 + x := by
    rw [List.getD_eq_getElem?_getD, List.getElem?_set_self hq]; rfl
  rw [e] at h2
  rw [h2, h1]
  grind

theorem set_fits {x s : Nat} (hs : s < 32) (hx : x < 4294967296) (h : x / 2 ^ s % 2 = 0) : x + 2 ^ s < 4294967296 := by
  have e : 4294967296 = 2 ^ s * 2 ^ (32 - s) := by rw [← Nat.pow_add, show s + (32 - s) = 32 by omega]
  have e2 : 2 ^ (32 - s) = 2 * 2 ^ (31 - s) := by rw [show 32 - s = (31 - s) + 1 by omega, Nat.pow_succ, Nat.mul_comm]
  have h1 : x / 2 ^ s < 2 ^ (32 - s) := by
    rw [Nat.div_lt_iff_lt_mul (Nat.two_pow_pos s), Nat.mul_comm, ← e]; exact hx
  have h2 : x / 2 ^ s + 2 ≤ 2 ^ (32 - s) := by omega
  have h3 := Nat.mul_le_mul_left (2 ^ s) h2
  have h4 := Nat.div_add_mod x (2 ^ s)
  have h5 := Nat.mod_lt x (Nat.two_pow_pos s)
  rw [← e, Nat.mul_add] at h3
  omega

set_option maxHeartbeats 1000000 in
theorem rSet {w : World} {A1 : Option Addr} {n c1 a : Nat} (h1 : Rd w A1 n c1 a) (i : Nat) (hn : n ≤ 1073741824) (hi : i ≤ 34359738368) (hb : a / 2 ^ i % 2 = 0) :
    Calls Tryd.prog 87 #[.slice A1 n c1, .int .i64 (i : Int)] w (fun e w' => ∃ A m c, e = .returned (.slice A m c) ∧ Rd w' A m c (a + 2 ^ i) ∧ m ≤ max n (i / 32 + 1) ∧ Below w.heap.size w w') := by
  obtain ⟨b1, xs, h1, rfl⟩ := h1
  have hbl := bit_limb h1.lim i
  rw [hb] at hbl
  have H1 := Lib.hid h1.len
  have hl1 := h1.len
  subst hl1
  have HQ : Hid (2 ^ i = 4294967296 ^ (i / 32) * 2 ^ (i % 32)) := by show _ = _; rw [← pow_split, show 32 * (i / 32) + i % 32 = i by omega]
  have HX : Hid (xs.getD (i / 32) 0 / 2 ^ (i % 32) % 2 = 0) := hbl
  clear hbl hb
  obtain ⟨q, hq⟩ : ∃ q, i / 32 = q := ⟨_, rfl⟩
  obtain ⟨s, hs⟩ : ∃ s, i % 32 = s := ⟨_, rfl⟩
  rw [hq, hs] at HQ HX
  rw [hq]
  have eq : (i : Int) / 32 = q := by omega
  have es : (i : Int) % 32 = s := by omega
  have hs32 : s < 32 := by omega
  have hqb : q ≤ 1073741824 := by omega
  clear hq hs
  go_enter Tryd.func87, Tryd.ntmps87
  go_wp2_with (with_reducible refine wpList_app rfl (.const (.slice none 0 0)) (.tmp 6) 22 rfl Tryd.underlying22 rfl rfl (Ar.nil w w.heap.size) h1 (by omega) (Nat.le_refl _) ?_; intro A2 c2 w2 ha2 hb2)
  rw [Nat.zero_add, List.nil_append] at ha2
  have HI : Hid (SetInv w xs q (.slice A2 xs.length c2) w2) := ⟨A2, c2, 0, rfl, by simpa using ha2, hb2, fun h => absurd h (by omega)⟩
  clear ha2 hb2
  go_loopw [5] (fun v wr => SetInv w xs q v wr) (fun v _ => match v with | .slice _ m _ => q + 1 - m | _ => 0)
  case atStart => exact HI.out
  case round =>
    clear HI
    obtain ⟨A, c, k, rfl, ha, hbl, hk⟩ := hrel
    have HA := Lib.hid ha
    have HB := Lib.hid hbl
    clear ha hbl
    by_cases hlt : xs.length + k ≤ q
    · have sl1 := lit1 wr 0 (by decide)
      go_wp2_with (with_reducible refine wpList_app rfl (.tmp 13) (.tmp 14) 22 rfl Tryd.underlying22 rfl rfl (HA.out.alloc _) sl1 (by omega) (HB.out.alloc HB.out.size _).size ?_; intro A3 c3 w3 ha3 hb3)
      have HI3 : Hid (SetInv w xs q (.slice A3 (xs.length + (k + 1)) c3) w3) := ⟨A3, c3, k + 1, rfl, by rw [List.replicate_succ', ← List.append_assoc]; exact ha3, (HB.out.alloc HB.out.size _).trans hb3, fun _ => by omega⟩
      clear ha3 hb3
      go_roundw
      case rel => exact HI3.out
      case measure => show q + 1 - (xs.length + k + 1) < q + 1 - (xs.length + k); omega
    · obtain ⟨g, rfl, hg, hcell, hfr, hset⟩ := HA.out.set (i := q) (by omega)
      have e0 : (xs ++ List.replicate k 0).getD q 0 = xs.getD q 0 := by
        rcases Nat.lt_or_ge q xs.length with h | h
        · rw [List.getD_eq_getElem?_getD, List.getElem?_append_left h, List.getD_eq_getElem?_getD]
        · rw [List.getD_eq_getElem?_getD, List.getElem?_append_right h, List.getElem?_replicate, List.getD_eq_getElem?_getD, List.getElem?_eq_none h]
          split <;> rfl
      rw [e0] at hcell
      have bx := h1.lim.getD q
      have HSV := set_val (l := xs ++ List.replicate k 0) (q := q) (x := 2 ^ s) (by simp; omega)
      rw [e0, val_append, val_zeros, Nat.mul_zero, Nat.add_zero, ← HQ.out] at HSV
      have HSET := Lib.hid (hset (xs.getD q 0 + 2 ^ s))
      have HSV' := Lib.hid HSV
      clear hset e0 HSV
      revert hcell bx HSV' HSET HX
      generalize xs.getD q 0 = x
      intro HX hcell bx HSET HSV
      go_wp2
      go_ret
      have hsum := set_fits hs32 bx HX.out
      have e : ((x : Int) + 2 ^ s) % 4294967296 = ((x + 2 ^ s : Nat) : Int) := by
        have : ((x + 2 ^ s : Nat) : Int) = (x : Int) + 2 ^ s := by simp
        rw [← this]
        clear this HSV HSET HX
        generalize x + 2 ^ s = y at hsum ⊢
        omega
      rw [e]
      have ha := HSET.out hsum
      obtain ⟨g2, hs2⟩ := ha.slice (by omega)
      refine ⟨_, _, _, rfl, ⟨g2, _, hs2, HSV.out⟩, ?_, HB.out.setCell (by simpa using hg) _⟩
      rcases Nat.eq_zero_or_pos k with e | e
      · omega
      · have := hk e; omega

/-- The rest of a division bit by bit, one bit on. -/
theorem bit_on (a d i : Nat) : a / 2 ^ i = 2 * (a / 2 ^ (i + 1)) + a / 2 ^ i % 2 := by
  rw [Nat.pow_succ, ← Nat.div_div_eq_div_mul]
  omega
end Go.Proofs.YteoeoppkefcmdaaDoor
