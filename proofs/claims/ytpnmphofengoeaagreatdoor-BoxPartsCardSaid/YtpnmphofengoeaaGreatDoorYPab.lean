/-
  Contracts and words that the statement's proof rests on: Jo.
-/
import Derived.Deep.RegionHeld3
/-
  A region that draws its order, whatever the order: if each operation, whenever the ones that it looks at have come up, leaves a value that meets its own fact, and every step keeps all facts, then all facts hold behind it. No Go text; no condition of a row.
-/
namespace Go.Proofs.YtpnmphofengoeaaGreatDoor.Jo
open Go
set_option linter.unusedVariables false

/-- The frame, with the values of some operations put into their slots. -/
def base (dst : Nat → Option Tmp) (vs : Nat → Value) (l : List Nat) (a : Act) : Act := l.foldl (fun a j => a.put (dst j) (vs j)) a

section
variable {dst : Nat → Option Tmp} {vs vs' : Nat → Value} {l m : List Nat} {a b : Act} {t : Nat}
theorem put_defers (a : Act) (d : Option Tmp) (v : Value) : (a.put d v).defers = a.defers := by cases d <;> rfl
theorem put_size (a : Act) (d : Option Tmp) (v : Value) : (a.put d v).tmps.size = a.tmps.size := by cases d <;> simp [Act.put]
theorem put_get_same {d : Nat} {v : Value} (h : d < a.tmps.size) : (a.put (some d) v).tmps[d]? = some v := by simp [Act.put, h]
theorem put_get_ne {d : Option Tmp} {v : Value} (h : d ≠ some t) : (a.put d v).tmps[t]? = a.tmps[t]? := by
  cases d with
  | none => rfl
  | some d =>
    have : d ≠ t := fun e => h (by rw [e])
    simp [Act.put, Array.getElem?_setIfInBounds_ne this]
theorem base_cons (j : Nat) : base dst vs (j :: l) a = base dst vs l (a.put (dst j) (vs j)) := rfl
theorem base_snoc (i : Nat) : base dst vs (l ++ [i]) a = (base dst vs l a).put (dst i) (vs i) := by simp [base]
theorem base_defers : ∀ (l : List Nat) (a : Act), (base dst vs l a).defers = a.defers
  | [], _ => rfl
  | j :: l, a => by rw [base_cons, base_defers l, put_defers]
theorem base_size : ∀ (l : List Nat) (a : Act), (base dst vs l a).tmps.size = a.tmps.size
  | [], _ => rfl
  | j :: l, a => by rw [base_cons, base_size l, put_size]
theorem base_miss : ∀ (l : List Nat) (a : Act), (∀ j ∈ l, dst j ≠ some t) → (base dst vs l a).tmps[t]? = a.tmps[t]?
  | [], _, _ => rfl
  | j :: l, a, h => by rw [base_cons, base_miss l _ (fun x hx => h x (by simp [hx])), put_get_ne (h j (by simp))]
theorem base_hit {j : Nat} (hj : dst j = some t) : ∀ (l : List Nat) (a : Act), j ∈ l → t < a.tmps.size → (∀ x ∈ l, dst x = some t → x = j) → (base dst vs l a).tmps[t]? = some (vs j)
  | [], _, h, _, _ => by cases h
  | x :: l, a, h, ht, hu => by
    rw [base_cons]
    by_cases hm : j ∈ l
    · exact base_hit hj l _ hm (by rw [put_size]; exact ht) (fun y hy => hu y (by simp [hy]))
    · have e : x = j := by
        rcases List.mem_cons.1 h with e | e
        · exact e.symm
        · exact absurd e hm
      subst e
      rw [base_miss l _ (fun y hy hd => hm (hu y (by simp [hy]) hd ▸ hy)), hj, put_get_same ht]
theorem base_vs : ∀ (l : List Nat) (a : Act), (∀ j ∈ l, vs j = vs' j) → base dst vs l a = base dst vs' l a
  | [], _, _ => rfl
  | j :: l, a, h => by rw [base_cons, base_cons, h j (by simp), base_vs l _ (fun x hx => h x (by simp [hx]))]
theorem base_same {T : List Nat} (hinj : ∀ i ∈ T, ∀ j ∈ T, ∀ d, dst i = some d → dst j = some d → i = j) (hl : ∀ j ∈ l, j ∈ T) (hm : ∀ j ∈ m, j ∈ T) (hs : ∀ j, j ∈ l ↔ j ∈ m) : base dst vs l a = base dst vs m a := by
  have ht : (base dst vs l a).tmps = (base dst vs m a).tmps := by
    apply Array.ext_getElem?
    intro t
    by_cases hsz : t < a.tmps.size
    · by_cases h : ∃ j ∈ l, dst j = some t
      · obtain ⟨j, hj, hd⟩ := h
        rw [base_hit hd l a hj hsz (fun x hx hx2 => hinj x (hl x hx) j (hl j hj) t hx2 hd), base_hit hd m a ((hs j).1 hj) hsz (fun x hx hx2 => hinj x (hm x hx) j (hl j hj) t hx2 hd)]
      · rw [base_miss l a (fun j hj hd => h ⟨j, hj, hd⟩), base_miss m a (fun j hj hd => h ⟨j, (hs j).2 hj, hd⟩)]
    · rw [Array.getElem?_eq_none (by rw [base_size]; omega), Array.getElem?_eq_none (by rw [base_size]; omega)]
  have hd : (base dst vs l a).defers = (base dst vs m a).defers := by rw [base_defers, base_defers]
  cases h1 : base dst vs l a
  cases h2 : base dst vs m a
  rw [h1, h2] at ht hd
  simp only at ht hd
  rw [ht, hd]
end

/-- What an operation waits for. -/
def dep (md : Region.Mode) (ops : Array Oper) (i : Nat) : List Nat := ((ops[i]?).map fun o => (o.after.toList.filter (Region.binds md)).map (·.on)).getD []
def anc (md : Region.Mode) (ops : Array Oper) : Nat → List Nat → List Nat
  | 0, s => s
  | k + 1, s => anc md ops k (s ++ s.flatMap (dep md ops)).eraseDups
theorem anc_sub {md : Region.Mode} {ops : Array Oper} {l : List Nat} (hcl : ∀ j ∈ l, ∀ x ∈ dep md ops j, x ∈ l) : ∀ (k : Nat) (s : List Nat), (∀ x ∈ s, x ∈ l) → ∀ x ∈ anc md ops k s, x ∈ l
  | 0, _, h, x, hx => h x hx
  | k + 1, s, h, x, hx => by
    refine anc_sub hcl k _ (fun y hy => ?_) x hx
    rw [List.mem_eraseDups, List.mem_append] at hy
    rcases hy with hy | hy
    · exact h y hy
    · obtain ⟨z, hz, hy⟩ := List.mem_flatMap.1 hy
      exact hcl z (h z hz) y hy

/-- The closed facts on a region: T come up first, each after what it looks at. -/
def okAt (md : Region.Mode) (ops : Array Oper) (T : List Nat) (dst : Nat → Option Tmp) (D : Nat → List Nat) (k sz i : Nat) : Bool :=
  decide (i < ops.size) && ((ops[i]?).bind (·.dst) == dst i) && (match dst i with | some d => decide (d < sz) | none => true)
    && T.all (fun j => i == j || dst i == none || dst i != dst j)
    && (D i).all (fun j => T.contains j && (anc md ops k (dep md ops i)).contains j)
    && (((ops[i]?).map (·.looksAt ops)).getD []).all (fun t => T.all fun j => (dst j != some t) || (D i).contains j)
def ok (md : Region.Mode) (ops : Array Oper) (T : List Nat) (dst : Nat → Option Tmp) (D : Nat → List Nat) (k sz : Nat) : Bool :=
  Region.noSelect ops && T.all (okAt md ops T dst D k sz) && (List.range ops.size).all (fun x => (dep md ops x).all (fun y => decide (y < x)) && (T.contains x || T.all (anc md ops k (dep md ops x)).contains))

theorem okAt_spec {md : Region.Mode} {ops : Array Oper} {T : List Nat} {dst : Nat → Option Tmp} {D : Nat → List Nat} {k sz i : Nat} (h : okAt md ops T dst D k sz i = true) :
    i < ops.size ∧ (ops[i]?).bind (·.dst) = dst i ∧ (∀ d, dst i = some d → d < sz) ∧ (∀ j ∈ T, ∀ d, dst i = some d → dst j = some d → i = j) ∧ (∀ j ∈ D i, j ∈ T ∧ j ∈ anc md ops k (dep md ops i)) ∧ (∀ o, ops[i]? = some o → ∀ t ∈ o.looksAt ops, ∀ j ∈ T, dst j = some t → j ∈ D i) := by
  unfold okAt at h
  simp only [Bool.and_eq_true, decide_eq_true_eq, beq_iff_eq, List.all_eq_true, Bool.or_eq_true, bne_iff_ne, ne_eq, List.contains_iff_mem] at h
  obtain ⟨⟨⟨⟨⟨h1, h2⟩, h3⟩, h4⟩, h5⟩, h6⟩ := h
  refine ⟨h1, h2, fun d hd => ?_, fun j hj d hd hd2 => ?_, h5, fun o ho t ht j hj hd => ?_⟩
  · rw [hd] at h3
    simpa using h3
  · rcases h4 j hj with (e | e) | e
    · exact e
    · rw [hd] at e; cases e
    · exact absurd (hd.trans hd2.symm) e
  · rw [ho] at h6
    rcases h6 t ht j hj with e | e
    · exact absurd hd e
    · exact e

theorem wpOp_frame {P : Program} {ops : Array Oper} {Q : Exit → Act → World → Prop} {i : Nat} {o : Oper} {a b : Act} {w : World} {R : Value → World → Prop} (ho : ops[i]? = some o) (hs : ∀ cs c, o.op ≠ .select cs c)
    (hag : ∀ t ∈ o.looksAt ops, a.tmps[t]? = b.tmps[t]?) (hQ : ∀ c a b w, Q (.panic c) b w → Q (.panic c) a w) (hsz : ∀ d, o.dst = some d → d < b.tmps.size)
    (h : wpOp P ops Q i (fun a' w' => ∃ v, a' = b.put o.dst v ∧ R v w') b w) : wpOp P ops Q i (fun a' w' => ∃ v, a' = a.put o.dst v ∧ R v w') a w := by
  have he : execOp a.eval o = execOp b.eval o := execOp_congr o hs fun x hx => by
    cases x with
    | tmp t =>
      have : t ∈ o.looksAt ops := List.mem_append_left _ (List.mem_filterMap.2 ⟨.tmp t, by simpa using hx, rfl⟩)
      simp only [Act.eval, Array.getD_eq_getD_getElem?, hag t this]
    | _ => rfl
  have hw : Region.wanted o (yielded ops a.tmps) = Region.wanted o (yielded ops b.tmps) := by
    unfold Region.wanted
    cases hg : o.guard with
    | none => rfl
    | some gw =>
      obtain ⟨g, want⟩ := gw
      have hy : yielded ops a.tmps g = yielded ops b.tmps g := by
        unfold yielded
        cases ht : (ops[g]?).bind (·.dst) with
        | none => rfl
        | some t =>
          have : t ∈ o.looksAt ops := by simp [Oper.looksAt, hg, ht]
          simp only [Option.bind_some, hag t this]
      simp only [hy]
  have conv : ∀ u w', (∃ v, b.put o.dst u = b.put o.dst v ∧ R v w') → ∃ v, a.put o.dst u = a.put o.dst v ∧ R v w' := by
    rintro u w' ⟨v, e, hr⟩
    cases hd : o.dst with
    | none => exact ⟨v, rfl, hr⟩
    | some d =>
      rw [hd] at e
      have e1 := congrArg (fun c : Act => c.tmps[d]?) e
      simp only [put_get_same (hsz d hd)] at e1
      cases e1
      exact ⟨u, rfl, hr⟩
  unfold wpOp at *
  simp only [ho] at *
  rw [hw]
  split
  · rename_i hwt
    simp only [hwt, if_true] at h
    rcases h with h | ⟨hasks, hlets⟩
    case inr => exact .inr ⟨by unfold Oper.asks at *; rw [he]; exact hasks, hlets⟩
    refine .inl ?_
    unfold Oper.wp at *
    rw [he]
    generalize (execOp b.eval o).run P w = r at *
    cases r with
    | ok n w' =>
      cases n <;> simp only [Oper.upon] at h ⊢
      case value u => exact conv u _ h
      case skip => exact conv _ _ h
      case defer d =>
        obtain ⟨v, e, _⟩ := h
        have e1 := congrArg (fun c : Act => c.defers.length) e
        simp [put_defers] at e1
      case enter f args =>
        refine Calls.mono h fun e w'' he => ?_
        cases e with
        | returned u => exact conv u _ he
        | panicked c => exact hQ _ _ _ _ he
        | outgrown => exact he
      case row row args => exact Rows.mono h fun u w'' he => conv u _ he
    | halt x w' =>
      cases x <;> simp only [Oper.upon] at h ⊢
      case panic u => exact hQ _ _ _ _ h
  · rename_i hwt
    simp only [hwt] at h
    exact conv _ _ h

theorem nodup_le : ∀ {l m : List Nat}, l.Nodup → (∀ x ∈ l, x ∈ m) → l.length ≤ m.length
  | [], _, _, _ => Nat.zero_le _
  | x :: l, m, hn, hs => by
    have hx : x ∈ m := hs x (by simp)
    have hn' := List.nodup_cons.1 hn
    have := nodup_le (l := l) (m := m.erase x) hn'.2 (fun y hy => by
      have hne : y ≠ x := fun e => hn'.1 (e ▸ hy)
      exact (List.mem_erase_of_ne hne).2 (hs y (by simp [hy])))
    have hl := List.length_erase_of_mem hx
    have hp : 0 < m.length := List.length_pos_of_mem hx
    simp only [List.length_cons]
    omega

/-- Which have come up, as the region keeps it. -/
def mark (T : List Nat) (n : Nat) : Array Bool := T.foldl (fun L i => L.setIfInBounds i true) (Array.replicate n false)
def Good (n : Nat) (l : List Nat) (L : Array Bool) : Prop := L.size = n ∧ ∀ j, j < n → L[j]? = some (decide (j ∈ l))
theorem Good.set {n : Nat} {l : List Nat} {L : Array Bool} (h : Good n l L) (i : Nat) : Good n (l ++ [i]) (L.setIfInBounds i true) := by
  refine ⟨by simpa using h.1, fun j hj => ?_⟩
  rw [Array.getElem?_setIfInBounds]
  by_cases e : i = j
  · subst e
    simp [h.1, hj]
  · rw [if_neg e, h.2 j hj]
    have : j ≠ i := fun x => e x.symm
    simp [this]
theorem Good.eq {n : Nat} {l m : List Nat} {L M : Array Bool} (h : Good n l L) (k : Good n m M) (hs : ∀ j, j ∈ l ↔ j ∈ m) : L = M := by
  apply Array.ext_getElem?
  intro j
  by_cases hj : j < n
  · rw [h.2 j hj, k.2 j hj]
    simp [hs j]
  · rw [Array.getElem?_eq_none (by rw [h.1]; omega), Array.getElem?_eq_none (by rw [k.1]; omega)]
theorem good_nil (n : Nat) : Good n [] (Array.replicate n false) := ⟨by simp, fun j hj => by simp [hj]⟩
theorem good_fold {n : Nat} : ∀ (T l : List Nat) (L : Array Bool), Good n l L → Good n (l ++ T) (T.foldl (fun L i => L.setIfInBounds i true) L)
  | [], l, L, h => by simpa using h
  | i :: T, l, L, h => by
    have := good_fold T (l ++ [i]) _ (h.set i)
    simpa using this
theorem good_mark (T : List Nat) (n : Nat) : Good n T (mark T n) := by
  have := good_fold T [] _ (good_nil n)
  rw [List.nil_append] at this
  exact this

section
variable {P : Program} {md : Region.Mode} {ops : Array Oper} {Q : Exit → Act → World → Prop} {a0 : Act} {T : List Nat} {dst : Nat → Option Tmp} {D : Nat → List Nat} {k : Nat}
    {Φ : Nat → Value → World → Prop} {J : World → Prop} {St : World → World → Prop}

/-- What each operation must do. -/
def Steps (P : Program) (ops : Array Oper) (Q : Exit → Act → World → Prop) (a0 : Act) (dst : Nat → Option Tmp) (D : Nat → List Nat) (Φ : Nat → Value → World → Prop) (J : World → Prop) (St : World → World → Prop) (T : List Nat) : Prop :=
  ∀ i ∈ T, ∀ vs w, J w → (∀ j ∈ D i, Φ j (vs j) w) → wpOp P ops Q i (fun a' w' => ∃ v, a' = (base dst vs (D i) a0).put (dst i) v ∧ Φ i v w' ∧ St w w') (base dst vs (D i) a0) w
theorem Steps.nil : Steps P ops Q a0 dst D Φ J St [] := fun _ h => by cases h
theorem Steps.cons {i : Nat} {o : Oper} {r : List Nat} (ho : ops[i]? = some o)
    (h : ∀ vs w, J w → (∀ j ∈ D i, Φ j (vs j) w) → ∀ K : Act → World → Prop, Shut (∀ v w', Φ i v w' → St w w' → K ((base dst vs (D i) a0).put (dst i) v) w') →
      if Region.wanted o (yielded ops (base dst vs (D i) a0).tmps) = true then Oper.wp P o (base dst vs (D i) a0) w K Q else K ((base dst vs (D i) a0).put o.dst undef) w)
    (hs : Steps P ops Q a0 dst D Φ J St r) : Steps P ops Q a0 dst D Φ J St (i :: r) := fun j hj => by
  rcases List.mem_cons.1 hj with rfl | hj
  · exact fun vs w hJ hd => wpOp_step ho (fun K hK => h vs w hJ hd K (fun v w' h1 h2 => hK _ _ ⟨v, rfl, h1, h2⟩))
  · exact hs j hj

theorem wpAny_joint (w0 : World) (hok : ok md ops T dst D k a0.tmps.size = true) (hnd : T.Nodup) (hQ : ∀ c a b w, Q (.panic c) b w → Q (.panic c) a w)
    (hst : ∀ i ∈ T, ∀ v w w', Φ i v w → St w w' → Φ i v w') (hJs : ∀ w w', J w → St w w' → J w') (hJ : J w0)
    (step : Steps P ops Q a0 dst D Φ J St T)
    (fin : ∀ vs w, J w → (∀ j ∈ T, Φ j (vs j) w) → wpAny P md ops Q (ops.size - T.length) (mark T ops.size) (base dst vs T a0) w) :
    wpAny P md ops Q ops.size (Array.replicate ops.size false) a0 w0 := by
  unfold ok at hok
  simp only [Bool.and_eq_true, List.all_eq_true, List.mem_range, Bool.or_eq_true, decide_eq_true_eq, List.contains_iff_mem] at hok
  obtain ⟨⟨hsel, hT⟩, hx⟩ := hok
  have hinj : ∀ i ∈ T, ∀ j ∈ T, ∀ d, dst i = some d → dst j = some d → i = j := fun i hi j hj d => (okAt_spec (hT i hi)).2.2.2.1 j hj d
  have go : ∀ (fuel : Nat) (l : List Nat) (vs : Nat → Value) (w : World) (L : Array Bool), fuel + l.length = ops.size → l.Nodup → (∀ j ∈ l, j ∈ T) → (∀ j ∈ l, ∀ x ∈ dep md ops j, x ∈ l) → Good ops.size l L → J w → (∀ j ∈ l, Φ j (vs j) w) → wpAny P md ops Q fuel L (base dst vs l a0) w := by
    intro fuel
    induction fuel with
    | zero =>
      intro l vs w L hf hn hl hcl hg hJ hΦ
      by_cases hall : ∀ j ∈ T, j ∈ l
      · have hs : ∀ j, j ∈ l ↔ j ∈ T := fun j => ⟨hl j, hall j⟩
        have h1 := nodup_le hn hl
        have h2 := nodup_le hnd hall
        have := fin vs w hJ (fun j hj => hΦ j (hall j hj))
        rw [← hg.eq (good_mark T ops.size) hs, ← base_same hinj hl (fun _ h => h) hs, show ops.size - T.length = 0 by omega] at this
        exact this
      · exfalso
        obtain ⟨j, hj⟩ := Classical.not_forall.1 hall
        obtain ⟨hj, hjl⟩ := Classical.not_imp.1 hj
        have := nodup_le (l := j :: l) (m := List.range ops.size) (List.nodup_cons.2 ⟨hjl, hn⟩) (fun x hx => List.mem_range.2 (by
          rcases List.mem_cons.1 hx with rfl | hx
          · exact (okAt_spec (hT x hj)).1
          · exact (okAt_spec (hT x (hl x hx))).1))
        simp at this
        omega
    | succ fuel ih =>
      intro l vs w L hf hn hl hcl hg hJ hΦ
      by_cases hall : ∀ j ∈ T, j ∈ l
      · have hs : ∀ j, j ∈ l ↔ j ∈ T := fun j => ⟨hl j, hall j⟩
        have h1 := nodup_le hn hl
        have h2 := nodup_le hnd hall
        have := fin vs w hJ (fun j hj => hΦ j (hall j hj))
        rw [← hg.eq (good_mark T ops.size) hs, ← base_same hinj hl (fun _ h => h) hs, show ops.size - T.length = fuel + 1 by omega] at this
        exact this
      · obtain ⟨j0, hj0⟩ := Classical.not_forall.1 hall
        obtain ⟨hj0, hj0l⟩ := Classical.not_imp.1 hj0
        have rdy : ∀ m, m < ops.size → m ∉ l → ∃ r, r ∈ Region.ready md ops L := by
          intro m
          induction m using Nat.strongRecOn with
          | ind m ihm =>
            intro hm hml
            by_cases hd : ∀ x ∈ dep md ops m, x ∈ l
            · refine ⟨m, mem_ready.2 ⟨by rw [Array.getD_eq_getD_getElem?, hg.2 m hm]; simp [hml], ops[m], by simp [hm], fun e he hb => ?_⟩⟩
              have : e.on ∈ dep md ops m := by
                simp only [dep, hm, Array.getElem?_eq_getElem, Option.map_some, Option.getD_some]
                exact List.mem_map.2 ⟨e, List.mem_filter.2 ⟨by simpa using he, hb⟩, rfl⟩
              have hlt := (okAt_spec (hT _ (hl _ (hd _ this)))).1
              rw [Array.getD_eq_getD_getElem?, hg.2 _ hlt]
              simp [hd _ this]
            · obtain ⟨x, hx1⟩ := Classical.not_forall.1 hd
              obtain ⟨hx1, hx2⟩ := Classical.not_imp.1 hx1
              have hlt := (hx m hm).1 x hx1
              exact ihm x hlt (by omega) hx2
        refine ⟨fun hr => ?_, fun i hi => ?_⟩
        · obtain ⟨r, hr2⟩ := rdy j0 (okAt_spec (hT j0 hj0)).1 hj0l
          rw [hr] at hr2
          cases hr2
        · obtain ⟨h0, o, ho, haf⟩ := mem_ready.1 hi
          have hlt : i < ops.size := (Array.getElem?_eq_some_iff.1 ho).1
          have hil : i ∉ l := by
            rw [Array.getD_eq_getD_getElem?, hg.2 i hlt] at h0
            simpa using h0
          have hdep : ∀ x ∈ dep md ops i, x ∈ l := by
            intro x hx1
            simp only [dep, ho, Option.map_some, Option.getD_some] at hx1
            obtain ⟨e, he, rfl⟩ := List.mem_map.1 hx1
            obtain ⟨he1, he2⟩ := List.mem_filter.1 he
            have h1 := haf e (by simpa using he1) he2
            have h2 := (hx i hlt).1 e.on (by simp only [dep, ho, Option.map_some, Option.getD_some]; exact List.mem_map.2 ⟨e, he, rfl⟩)
            rw [Array.getD_eq_getD_getElem?, hg.2 _ (by omega)] at h1
            simpa using h1
          have hiT : i ∈ T := by
            rcases (hx i hlt).2 with h | h
            · exact h
            · exact absurd (anc_sub hcl k _ hdep j0 (h j0 hj0)) hj0l
          obtain ⟨_, hds, hsz, hin, hD, hlk⟩ := okAt_spec (hT i hiT)
          have hds' : o.dst = dst i := by rw [← hds, ho]; rfl
          have hDl : ∀ j ∈ D i, j ∈ l := fun j hj => anc_sub hcl k _ hdep j (hD j hj).2
          have hstep := step i hiT vs w hJ (fun j hj => hΦ j (hDl j hj))
          rw [← hds'] at hstep
          have hag : ∀ t ∈ o.looksAt ops, (base dst vs l a0).tmps[t]? = (base dst vs (D i) a0).tmps[t]? := by
            intro t ht
            by_cases h : ∃ j ∈ l, dst j = some t
            · obtain ⟨j, hj, hd⟩ := h
              have htz : t < a0.tmps.size := (okAt_spec (hT j (hl j hj))).2.2.1 t hd
              have hjD := hlk o ho t ht j (hl j hj) hd
              rw [base_hit hd l a0 hj htz (fun x hx hx2 => hinj x (hl x hx) j (hl j hj) t hx2 hd), base_hit hd (D i) a0 hjD htz (fun x hx hx2 => hinj x (hl x (hDl x hx)) j (hl j hj) t hx2 hd)]
            · rw [base_miss l a0 (fun j hj hd => h ⟨j, hj, hd⟩), base_miss (D i) a0 (fun j hj hd => h ⟨j, hDl j hj, hd⟩)]
          have := wpOp_frame ho (Region.noSelect_spec hsel i o · · ho) hag hQ (fun d hd => by rw [base_size]; exact hsz d (hds' ▸ hd)) hstep
          refine wpOp_mono ?_ this
          rintro a' w' ⟨v, rfl, h1, h2⟩
          have e : (base dst vs l a0).put o.dst v = base dst (fun x => if x = i then v else vs x) (l ++ [i]) a0 := by
            rw [base_snoc, if_pos rfl, hds']
            congr 1
            exact base_vs l a0 (fun j hj => by
              have hne : j ≠ i := fun e => hil (e ▸ hj)
              rw [if_neg hne])
          rw [e]
          refine ih (l ++ [i]) _ w' _ (by simp; omega) ?_ ?_ ?_ (hg.set i) (hJs w w' hJ h2) ?_
          · rw [List.nodup_append]
            refine ⟨hn, by simp, fun x hx y hy => ?_⟩
            simp at hy
            subst hy
            exact fun e => hil (e ▸ hx)
          · intro j hj
            rcases List.mem_append.1 hj with h | h
            · exact hl j h
            · simp at h; subst h; exact hiT
          · intro j hj x hx1
            rcases List.mem_append.1 hj with h | h
            · exact List.mem_append_left _ (hcl j h x hx1)
            · simp at h; subst h; exact List.mem_append_left _ (hdep x hx1)
          · intro j hj
            rcases List.mem_append.1 hj with h | h
            · have hne : j ≠ i := fun e => hil (e ▸ h)
              simp only [if_neg hne]
              exact hst j (hl j h) _ _ _ (hΦ j h) h2
            · simp at h; subst h; simpa using h1
  exact go ops.size [] (fun _ => undef) w0 _ (by simp) (by simp) (fun _ h => by cases h) (fun _ h => by cases h) (good_nil _) hJ (fun _ h => by cases h)

/-- A whole region by it. -/
theorem wp_region_joint {id : Nat} {w : World} (hm : P.follows .mixedOrders = true) (hok : ok .any ops T dst D k a0.tmps.size = true) (hnd : T.Nodup) (hQ : ∀ c a b w, Q (.panic c) b w → Q (.panic c) a w)
    (hst : ∀ i ∈ T, ∀ v w w', Φ i v w → St w w' → Φ i v w') (hJs : ∀ w w', J w → St w w' → J w') (hJ : J w.drew)
    (step : Steps P ops Q a0 dst D Φ J St T)
    (fin : ∀ vs w, J w → (∀ j ∈ T, Φ j (vs j) w) → wpAny P .any ops Q (ops.size - T.length) (mark T ops.size) (base dst vs T a0) w) :
    (Code.region id ops true).wp P Q a0 w := wp_region_any hm (wpAny_joint _ hok hnd hQ hst hJs hJ step fin)
end
end Go.Proofs.YtpnmphofengoeaaGreatDoor.Jo
namespace Go.Proofs.YtpnmphofengoeaaGreatDoor
theorem Jo.za {α : Type _} (l : List α) (i : Nat) (a : α) : l.toArray.setIfInBounds i a = (l.set i a).toArray := List.setIfInBounds_toArray ..
theorem Jo.zb {α : Type _} (x : α) (xs : List α) (a : α) : (x :: xs).set 0 a = a :: xs := rfl
theorem Jo.zc {α : Type _} (x : α) (xs : List α) (i : Nat) (a : α) : (x :: xs).set (i + 1) a = x :: xs.set i a := rfl
theorem Jo.zd {α β : Type _} (f : β → α → β) (b : β) (a : α) (l : List α) : List.foldl f b (a :: l) = List.foldl f (f b a) l := rfl
theorem Jo.ze {α β : Type _} (f : β → α → β) (b : β) : List.foldl f b [] = b := rfl
end Go.Proofs.YtpnmphofengoeaaGreatDoor
