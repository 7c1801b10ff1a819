/- A region whose order is open, in which what is read is written late: the loads may be taken first as long as a marked operation, which waits for them, has not come up; what must hold of the world behind each operation is asked only till then. A plain law over any program. -/
import Derived.Test.YtnigmdkhecblnaaDoorMB
import Derived.OrdersHeld
import Derived.Deep.RegionHeld3
import Derived.Deep.AppendLies
set_option linter.unusedSimpArgs false
set_option linter.unusedVariables false
namespace Go.Proofs.YtnigmdkhecblnaaDoor
open Go.RowKit

section
variable {P : Program} {ops : Array Oper} {Q : Exit → Act → World → Prop} {md : Region.Mode} {S : World → Prop} {m : Nat}

/-- Whatever order is picked; S holds behind each operation as long as number m has not come up. -/
def AnyM (P : Program) (md : Region.Mode) (ops : Array Oper) (Q : Exit → Act → World → Prop) (S : World → Prop) (m : Nat) : Nat → Array Bool → Act → World → Prop
  | 0, l, a, w => Region.ready md ops l = [] ∧ Q .normal a w
  | n + 1, l, a, w => (Region.ready md ops l = [] → Q .normal a w) ∧
      ∀ i ∈ Region.ready md ops l, wpOp P ops Q i (fun a' w' => ((i == m || l.getD m true) = false → S w') ∧ AnyM P md ops Q S m n (l.setIfInBounds i true) a' w') a w

theorem AnyM.any : ∀ {n : Nat} {l : Array Bool} {a : Act} {w : World}, AnyM P md ops Q S m n l a w → wpAny P md ops Q n l a w
  | 0, _, _, _, h => h
  | _ + 1, _, _, _, h => ⟨h.1, fun i hi => wpOp_mono (fun _ _ k => AnyM.any k.2) (h.2 i hi)⟩

theorem not_waits {i j : Nat} {l : Array Bool} (hi : i ∈ Region.ready md ops l) (hj : j ∈ Region.ready md ops l) {oj : Oper} (ho : ops[j]? = some oj) : ∀ e ∈ oj.after, Region.binds md e = true → e.on ≠ i := by
  intro e he hb heq
  obtain ⟨_, o', ho', hall⟩ := mem_ready.1 hj
  obtain rfl : o' = oj := Option.some.inj (ho'.symm.trans ho)
  have h1 := hall e he hb
  have h0 := (mem_ready.1 hi).1
  rw [heq] at h1
  simp only [Array.getD] at h0 h1
  split at h0
  · rename_i hlt
    rw [dif_pos hlt] at h1
    rw [h0] at h1
    cases h1
  · cases h0

theorem AnyM.first {i : Nat} {oi om : Oper} {v : Value} (hi : ops[i]? = some oi) (hm : ops[m]? = some om) (hmi : ∃ e ∈ om.after, Region.binds md e = true ∧ e.on = i) (hsel : ∀ (j : Nat) (o : Oper) cs b, ops[j]? = some o → o.op ≠ .select cs b)
    (hQ : ∀ c a w, Q (.panic c) (a.put oi.dst v) w → Q (.panic c) a w) (him : i ≠ m) :
    ∀ (n : Nat) (l : Array Bool) (a : Act) (w : World),
      (∀ j oj, ops[j]? = some oj → j ≠ i → l.getD j true = false → (∀ e ∈ oj.after, Region.binds md e = true → e.on ≠ i) → oi.apart ops oj = true) →
      i ∈ Region.ready md ops l → l.getD m true = false → YieldsIf P ops S oi v a → S w →
      AnyM P md ops Q S m n (l.setIfInBounds i true) (a.put oi.dst v) w → AnyM P md ops Q S m (n + 1) l a w := by
  intro n
  induction n with
  | zero =>
    intro l a w _ hr _ hy hS H
    refine ⟨fun h => (by rw [h] at hr; cases hr), fun j hj => ?_⟩
    by_cases e : j = i
    · subst e; exact hy.wpOp hi hS ⟨fun _ => hS, H⟩
    · have k := ready_mono hj e
      rw [H.1] at k
      cases k
  | succ n ih =>
    intro l a w hfree hr hlm hy hS H
    refine ⟨fun h => (by rw [h] at hr; cases hr), fun j hj => ?_⟩
    by_cases e : j = i
    · subst e; exact hy.wpOp hi hS ⟨fun _ => hS, H⟩
    · obtain ⟨hjun, oj, hoj, _⟩ := mem_ready.1 hj
      have hno := not_waits hr hj hoj
      have hjm : j ≠ m := by
        rintro rfl
        obtain rfl : oj = om := Option.some.inj (hoj.symm.trans hm)
        obtain ⟨ed, h1, h2, h3⟩ := hmi
        exact hno ed h1 h2 h3
      have h1 := H.2 j (ready_mono hj e)
      have hfm : (j == m || (l.setIfInBounds i true).getD m true) = false := by
        rw [getD_set_ne true him, hlm]; simp [hjm]
      have h2 := wpOp_putIf hoj (hfree j oj hoj e hjun hno) (fun cs b => hsel i oi cs b hi) (fun cs b => hsel j oj cs b hoj) hQ hy h1
      have hfree' : ∀ k ok, ops[k]? = some ok → k ≠ i → (l.setIfInBounds j true).getD k true = false → (∀ e ∈ ok.after, Region.binds md e = true → e.on ≠ i) → oi.apart ops ok = true := fun k ok hk hki hun hn => by
        refine hfree k ok hk hki ?_ hn
        by_cases hjk : j = k
        · subst hjk; exact hjun
        · rwa [getD_set_ne true hjk] at hun
      refine wpOp_mono (fun a' w' h3 => ⟨fun _ => h3.2.1 hfm, ih _ a' w' hfree' (ready_mono hr (Ne.symm e)) (by rw [getD_set_ne true hjm]; exact hlm) h3.1 (h3.2.1 hfm) ?_⟩) h2
      rw [Array.setIfInBounds_comm _ _ e]
      exact h3.2.2

/-- Number m waits for number i. -/
def waitsB (md : Region.Mode) (ops : Array Oper) (m i : Nat) : Bool := match ops[m]? with
  | some o => o.after.any fun e => Region.binds md e && (e.on == i)
  | none => false

/-- Number i is taken first. -/
theorem AnyM.take {i : Nat} {oi : Oper} {v : Value} {n : Nat} {l : Array Bool} {a : Act} {w : World} (hi : ops[i]? = some oi) (hs : Region.noSelect ops = true) (hf : Region.free md ops l i = true)
    (hr : (Region.ready md ops l).contains i = true) (hw : (waitsB md ops m i && !(i == m) && !(l.getD m true)) = true) (hQ : ∀ c a w, Q (.panic c) (a.put oi.dst v) w → Q (.panic c) a w) (hy : YieldsIf P ops S oi v a) (hS : S w)
    (h : AnyM P md ops Q S m n (l.setIfInBounds i true) (a.put oi.dst v) w) : AnyM P md ops Q S m (n + 1) l a w := by
  simp only [Bool.and_eq_true, Bool.not_eq_true'] at hw
  obtain ⟨⟨h1, h2⟩, h3⟩ := hw
  unfold waitsB at h1
  cases hm : ops[m]? with
  | none => rw [hm] at h1; cases h1
  | some om =>
    rw [hm] at h1
    simp only [Array.any_eq_true, Bool.and_eq_true, beq_iff_eq] at h1
    obtain ⟨k, hk, hb, ho⟩ := h1
    exact AnyM.first hi hm ⟨_, Array.getElem_mem hk, hb, ho⟩ (Region.noSelect_spec hs) hQ (by simpa using h2) n l a w (Region.free_spec hi hf) (by simpa using hr) h3 hy hS h

theorem AnyM.firstAny {i : Nat} {oi : Oper} {v : Value} (hi : ops[i]? = some oi) (hsel : ∀ (j : Nat) (o : Oper) cs b, ops[j]? = some o → o.op ≠ .select cs b)
    (hQ : ∀ c a w, Q (.panic c) (a.put oi.dst v) w → Q (.panic c) a w) (him : i ≠ m) :
    ∀ (n : Nat) (l : Array Bool) (a : Act) (w : World),
      (∀ j oj, ops[j]? = some oj → j ≠ i → l.getD j true = false → (∀ e ∈ oj.after, Region.binds md e = true → e.on ≠ i) → oi.apart ops oj = true) →
      i ∈ Region.ready md ops l → YieldsIf P ops (fun _ => True) oi v a → (l.getD m true = false → S w) →
      AnyM P md ops Q S m n (l.setIfInBounds i true) (a.put oi.dst v) w → AnyM P md ops Q S m (n + 1) l a w := by
  intro n
  induction n with
  | zero =>
    intro l a w _ hr hy hS H
    refine ⟨fun h => (by rw [h] at hr; cases hr), fun j hj => ?_⟩
    by_cases e : j = i
    · subst e; exact hy.wpOp hi trivial ⟨fun h => hS (Bool.or_eq_false_iff.1 h).2, H⟩
    · have k := ready_mono hj e
      rw [H.1] at k
      cases k
  | succ n ih =>
    intro l a w hfree hr hy hS H
    refine ⟨fun h => (by rw [h] at hr; cases hr), fun j hj => ?_⟩
    by_cases e : j = i
    · subst e; exact hy.wpOp hi trivial ⟨fun h => hS (Bool.or_eq_false_iff.1 h).2, H⟩
    · obtain ⟨hjun, oj, hoj, _⟩ := mem_ready.1 hj
      have hno := not_waits hr hj hoj
      have h1 := H.2 j (ready_mono hj e)
      have h2 := wpOp_putIf hoj (hfree j oj hoj e hjun hno) (fun cs b => hsel i oi cs b hi) (fun cs b => hsel j oj cs b hoj) hQ hy h1
      have hfree' : ∀ k ok, ops[k]? = some ok → k ≠ i → (l.setIfInBounds j true).getD k true = false → (∀ e ∈ ok.after, Region.binds md e = true → e.on ≠ i) → oi.apart ops ok = true := fun k ok hk hki hun hn => by
        refine hfree k ok hk hki ?_ hn
        by_cases hjk : j = k
        · subst hjk; exact hjun
        · rwa [getD_set_ne true hjk] at hun
      refine wpOp_mono (fun a' w' h3 => ⟨fun hf => h3.2.1 (by rw [getD_set_ne true him]; exact hf), ih _ a' w' hfree' (ready_mono hr (Ne.symm e)) h3.1 (fun hf => ?_) ?_⟩) h2
      · refine h3.2.1 ?_
        by_cases hjm : j = m
        · subst hjm
          exfalso
          have hlt : j < l.size := by
            rcases Nat.lt_or_ge j l.size with h | h
            · exact h
            · simp [Array.getD, Nat.not_lt.2 h] at hjun
          simp [Array.getD, hlt] at hf
        · rw [getD_set_ne true hjm] at hf
          rw [getD_set_ne true him, hf]
          simp [hjm]
      · rw [Array.setIfInBounds_comm _ _ e]
        exact h3.2.2

/-- Number i, which looks at no memory, is taken first. -/
theorem AnyM.takeAny {i : Nat} {oi : Oper} {v : Value} {n : Nat} {l : Array Bool} {a : Act} {w : World} (hi : ops[i]? = some oi) (hs : Region.noSelect ops = true) (hf : Region.free md ops l i = true)
    (hr : (Region.ready md ops l).contains i = true) (hw : (i == m) = false) (hQ : ∀ c a w, Q (.panic c) (a.put oi.dst v) w → Q (.panic c) a w) (hy : YieldsIf P ops (fun _ => True) oi v a) (hS : l.getD m true = false → S w)
    (h : AnyM P md ops Q S m n (l.setIfInBounds i true) (a.put oi.dst v) w) : AnyM P md ops Q S m (n + 1) l a w :=
  AnyM.firstAny hi (Region.noSelect_spec hs) hQ (by simpa using hw) n l a w (Region.free_spec hi hf) (by simpa using hr) hy hS h

/-- The beginning. -/
theorem wp_region_M {id : Nat} {a : Act} {w : World} (S : World → Prop) (m : Nat) (hm : P.follows .mixedOrders = true) (h : AnyM P .any ops Q S m ops.size (Array.replicate ops.size false) a w.drew) : (Code.region id ops true).wp P Q a w :=
  wp_region_any hm h.any

/-- Each of the operations rs comes up next. -/
def NextM (P : Program) (md : Region.Mode) (ops : Array Oper) (Q : Exit → Act → World → Prop) (S : World → Prop) (m n : Nat) (l : Array Bool) (a : Act) (w : World) (rs : List Nat) : Prop :=
  ∀ i ∈ rs, wpOp P ops Q i (fun a' w' => ((i == m || l.getD m true) = false → S w') ∧ AnyM P md ops Q S m n (l.setIfInBounds i true) a' w') a w
theorem NextM.nil {n : Nat} {l : Array Bool} {a : Act} {w : World} : NextM P md ops Q S m n l a w [] := fun _ h => by cases h
theorem NextM.cons {n : Nat} {l : Array Bool} {a : Act} {w : World} {i : Nat} {o : Oper} {rs : List Nat} (ho : ops[i]? = some o)
    (h : ∀ K : Act → World → Prop, Shut (∀ a w, ((i == m || l.getD m true) = false → S w) → AnyM P md ops Q S m n (l.setIfInBounds i true) a w → K a w) → if Region.wanted o (yielded ops a.tmps) = true then Oper.wp P o a w K Q else K (a.put o.dst undef) w)
    (hs : NextM P md ops Q S m n l a w rs) : NextM P md ops Q S m n l a w (i :: rs) := fun j hj => by
  rcases List.mem_cons.1 hj with rfl | hj
  · exact wpOp_step ho fun K hK => h K fun a w hS hW => hK a w ⟨hS, hW⟩
  · exact hs j hj
theorem AnyM.next {n : Nat} {l : Array Bool} {a : Act} {w : World} (rs : List Nat) (hr : Region.ready md ops l = rs) (hne : rs ≠ []) (h : NextM P md ops Q S m n l a w rs) : AnyM P md ops Q S m (n + 1) l a w :=
  ⟨fun h0 => absurd (hr ▸ h0) hne, hr ▸ h⟩
theorem AnyM.done {l : Array Bool} {a : Act} {w : World} (hr : Region.ready md ops l = []) (h : Q .normal a w) : ∀ n, AnyM P md ops Q S m n l a w
  | 0 => ⟨hr, h⟩
  | _ + 1 => ⟨fun _ => h, by rw [hr]; simp⟩
end
end Go.Proofs.YtnigmdkhecblnaaDoor
