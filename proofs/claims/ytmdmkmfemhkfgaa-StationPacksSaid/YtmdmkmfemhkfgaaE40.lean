/- Mathematics of groups: both searches find the same one. -/
import Derived.Test.YtmdmkmfemhkfgaaE39
set_option linter.unusedSimpArgs false
set_option linter.unusedVariables false
set_option linter.unusedSimpArgs false
set_option linter.unusedVariables false
namespace Go.Proofs.Ytmdmkmfemhkfgaa
open Go.RowKit
set_option maxRecDepth 100000

theorem lexB_asymm : ∀ (a b : List Int), lexB a b = true → lexB b a = false
  | [], [], h => by simp [lexB] at h
  | [], _ :: _, _ => rfl
  | _ :: _, [], h => by simp [lexB] at h
  | x :: a, y :: b, h => by
    simp only [lexB] at h ⊢
    by_cases e : x = y
    · rw [if_pos e] at h
      rw [if_pos e.symm]
      exact lexB_asymm a b h
    · rw [if_neg e] at h
      rw [if_neg (fun e' => e e'.symm)]
      have := of_decide_eq_true h
      exact decide_eq_false (by omega)
theorem lexB_trans : ∀ (a b c : List Int), lexB a b = true → lexB b c = true → lexB a c = true
  | [], [], c, h, h' => by simp [lexB] at h
  | [], _ :: _, [], h, h' => by simp [lexB] at h'
  | [], _ :: _, _ :: _, _, _ => rfl
  | _ :: _, [], _, h, _ => by simp [lexB] at h
  | x :: a, y :: b, [], _, h' => by simp [lexB] at h'
  | x :: a, y :: b, z :: c, h, h' => by
    simp only [lexB] at h h' ⊢
    by_cases e : x = y
    · subst e
      rw [if_pos rfl] at h
      by_cases e' : x = z
      · subst e'
        rw [if_pos rfl] at h' ⊢
        exact lexB_trans a b c h h'
      · rw [if_neg e'] at h' ⊢
        exact h'
    · rw [if_neg e] at h
      have h1 := of_decide_eq_true h
      by_cases e' : y = z
      · subst e'
        rw [if_neg e]
        exact h
      · rw [if_neg e'] at h'
        have h2 := of_decide_eq_true h'
        rw [if_neg (show ¬ x = z by omega)]
        exact decide_eq_true (by omega)
theorem lexB_total : ∀ (a b : List Int), a.length = b.length → a = b ∨ lexB a b = true ∨ lexB b a = true
  | [], [], _ => .inl rfl
  | [], _ :: _, h => by simp at h
  | _ :: _, [], h => by simp at h
  | x :: a, y :: b, h => by
    simp only [lexB]
    by_cases e : x = y
    · subst e
      rw [if_pos rfl, if_pos rfl]
      rcases lexB_total a b (by simpa using h) with h1 | h1 | h1
      · exact .inl (by rw [h1])
      · exact .inr (.inl h1)
      · exact .inr (.inr h1)
    · rw [if_neg e, if_neg (fun e' => e e'.symm)]
      by_cases h1 : x < y
      · exact .inr (.inl (decide_eq_true h1))
      · exact .inr (.inr (decide_eq_true (by omega)))
theorem lexB_next : ∀ (g : List Int) (s t : Int) (x y : List Int), s < t → lexB (g ++ s :: x) (g ++ t :: y) = true
  | [], s, t, x, y, h => by
    simp only [List.nil_append, lexB]
    rw [if_neg (by omega)]
    exact decide_eq_true h
  | u :: g, s, t, x, y, h => by
    simp only [List.cons_append, lexB]
    rw [if_pos trivial]
    exact lexB_next g s t x y h
/-- The first list is the better one, or they are the same. -/
def Bt (a b : List Int) : Prop := b.length < a.length ∨ (b.length = a.length ∧ (b = a ∨ lexB a b = true))
theorem Bt.refl (a : List Int) : Bt a a := .inr ⟨rfl, .inl rfl⟩
theorem Bt.trans {a b c : List Int} (h : Bt a b) (h' : Bt b c) : Bt a c := by
  rcases h with h | ⟨h, k⟩ <;> rcases h' with h' | ⟨h', k'⟩
  · exact .inl (by omega)
  · exact .inl (by omega)
  · exact .inl (by omega)
  · refine .inr ⟨by omega, ?_⟩
    rcases k with rfl | k
    · exact k'
    · rcases k' with rfl | k'
      · exact .inr k
      · exact .inr (lexB_trans _ _ _ k k')
theorem Bt.antisymm {a b : List Int} (h : Bt a b) (h' : Bt b a) : a = b := by
  rcases h with h | ⟨h, k⟩
  · rcases h' with h' | ⟨h', _⟩ <;> omega
  · rcases k with k | k
    · exact k.symm
    · rcases h' with h' | ⟨_, k' | k'⟩
      · omega
      · exact k'
      · rw [lexB_asymm _ _ k] at k'
        cases k'
theorem allB_iff (l : List G) (L : List Int) : allB l L L.length = true ↔ L.Pairwise (fun a b => (a, b) ∈ l) := by
  unfold allB
  rw [List.pairwise_iff_getElem]
  simp only [List.all_eq_true, List.mem_range, decide_eq_true_eq]
  constructor
  · intro h i j hi hj hij
    have := h j hj i hij
    rw [List.getD_eq_getElem?_getD, List.getD_eq_getElem?_getD, List.getElem?_eq_getElem hi, List.getElem?_eq_getElem hj] at this
    exact this
  · intro h j hj i hij
    rw [List.getD_eq_getElem?_getD, List.getD_eq_getElem?_getD, List.getElem?_eq_getElem (show i < L.length by omega), List.getElem?_eq_getElem hj]
    exact h i j (by omega) hj hij
/-- The reference's greatest group, against all sets looked at. -/
theorem refBest_best (l : List G) (n : Nat) : ∀ k, 1 ≤ k → Cl l n (refBest l n k) ∧ ∀ j, 1 ≤ j → j < k → Cl l n (setL j n) → Bt (refBest l n k) (setL j n)
  | 0, h => by omega
  | 1, _ => ⟨⟨fun x hx => by simp [refBest] at hx, by simp [refBest]⟩, fun j h1 h2 => by omega⟩
  | k + 2, _ => by
    obtain ⟨h1, h2⟩ := refBest_best l n (k + 1) (by omega)
    rw [refBest_succ l n (k + 1) (by omega)]
    have hmem : ∀ x ∈ setL (k + 1) n, 0 ≤ x ∧ x < (n : Int) := fun x hx => by
      obtain ⟨i, hi, _, rfl⟩ := mem_setL.1 hx
      omega
    generalize refBest l n (k + 1) = B at h1 h2
    have hall := allB_iff l (setL (k + 1) n)
    unfold bestOf
    by_cases c1 : allB l (setL (k + 1) n) (setL (k + 1) n).length = true
    · have hC : Cl l n (setL (k + 1) n) := ⟨hmem, hall.1 c1⟩
      rw [c1, Bool.true_and]
      by_cases c2 : (decide (B.length < (setL (k + 1) n).length) || (decide ((setL (k + 1) n).length = B.length) && lexB (setL (k + 1) n) B)) = true
      · rw [if_pos c2]
        have hb : Bt (setL (k + 1) n) B := by
          rw [Bool.or_eq_true, Bool.and_eq_true, decide_eq_true_eq, decide_eq_true_eq] at c2
          rcases c2 with c2 | ⟨c2, c3⟩
          · exact .inl c2
          · exact .inr ⟨c2.symm, .inr c3⟩
        refine ⟨hC, fun j hj1 hj2 hj3 => ?_⟩
        by_cases e : j = k + 1
        · subst e; exact Bt.refl _
        · exact hb.trans (h2 j hj1 (by omega) hj3)
      · rw [if_neg c2]
        rw [Bool.or_eq_true, Bool.and_eq_true, decide_eq_true_eq, decide_eq_true_eq, not_or, not_and] at c2
        have hb : Bt B (setL (k + 1) n) := by
          by_cases e : (setL (k + 1) n).length = B.length
          · refine .inr ⟨e, ?_⟩
            rcases lexB_total _ _ e with h | h | h
            · exact .inl h
            · exact absurd h (c2.2 e)
            · exact .inr h
          · exact .inl (by omega)
        refine ⟨h1, fun j hj1 hj2 hj3 => ?_⟩
        by_cases e : j = k + 1
        · subst e; exact hb
        · exact h2 j hj1 (by omega) hj3
    · rw [if_neg (by rw [Bool.and_eq_true]; exact fun h => c1 h.1)]
      refine ⟨h1, fun j hj1 hj2 hj3 => ?_⟩
      by_cases e : j = k + 1
      · subst e; exact absurd (hall.2 hj3.pair) c1
      · exact h2 j hj1 (by omega) hj3
theorem bits_of (p : Nat → Bool) : ∀ n, ∃ k, k < 2 ^ n ∧ ∀ i, i < n → k.testBit i = p i
  | 0 => ⟨0, by simp, fun i hi => by omega⟩
  | n + 1 => by
    obtain ⟨k, hk, h⟩ := bits_of p n
    have hb : k.testBit n = false := Nat.testBit_lt_two_pow hk
    cases hp : p n
    · refine ⟨k, by rw [Nat.pow_succ]; omega, fun i hi => ?_⟩
      by_cases e : i = n
      · subst e; rw [hb, hp]
      · exact h i (by omega)
    · refine ⟨2 ^ n + k, by rw [Nat.pow_succ]; omega, fun i hi => ?_⟩
      by_cases e : i = n
      · subst e; rw [Nat.testBit_two_pow_add_eq, hb, hp]; rfl
      · rw [Nat.testBit_two_pow_add_gt (show i < n by omega)]
        exact h i (by omega)
theorem asc_ext : ∀ (a b : List Int), a.Pairwise (· < ·) → b.Pairwise (· < ·) → (∀ x, x ∈ a ↔ x ∈ b) → a = b
  | [], [], _, _, _ => rfl
  | [], y :: b, _, _, h => by have := (h y).2 (by simp); simp at this
  | x :: a, [], _, _, h => by have := (h x).1 (by simp); simp at this
  | x :: a, y :: b, ha, hb, h => by
    rw [List.pairwise_cons] at ha hb
    have e : x = y := by
      have h1 := (h x).1 (by simp)
      have h2 := (h y).2 (by simp)
      rw [List.mem_cons] at h1 h2
      rcases h1 with h1 | h1
      · exact h1
      · rcases h2 with h2 | h2
        · exact h2.symm
        · have := ha.1 y h2
          have := hb.1 x h1
          omega
    subst e
    rw [asc_ext a b ha.2 hb.2 fun z => ?_]
    have h3 := h z
    rw [List.mem_cons, List.mem_cons] at h3
    constructor
    · intro hz
      rcases h3.1 (.inr hz) with e | e
      · subst e; have := ha.1 _ hz; omega
      · exact e
    · intro hz
      rcases h3.2 (.inr hz) with e | e
      · subst e; have := hb.1 _ hz; omega
      · exact e
theorem Cl.asc {l : List G} {n : Nat} {M : List Int} (hp : ∀ k (h : k < l.length), 0 ≤ l[k].1 ∧ l[k].1 < l[k].2) (h : Cl l n M) : M.Pairwise (· < ·) := by
  refine h.pair.imp fun {a b} hab => ?_
  obtain ⟨k, hk, e⟩ := List.getElem_of_mem hab
  have := hp k hk
  rw [e] at this
  exact this.2
/-- Each group is one of the sets. -/
theorem Cl.set {l : List G} {n : Nat} {M : List Int} (hp : ∀ k (h : k < l.length), 0 ≤ l[k].1 ∧ l[k].1 < l[k].2) (h : Cl l n M) (hM : M ≠ []) : ∃ j, 1 ≤ j ∧ j < 2 ^ n ∧ setL j n = M := by
  obtain ⟨k, hk, hb⟩ := bits_of (fun i => decide ((i : Int) ∈ M)) n
  have e : setL k n = M := by
    refine asc_ext _ _ (setL_asc k n) (h.asc hp) fun x => ?_
    rw [mem_setL]
    constructor
    · rintro ⟨i, hi, hb', rfl⟩
      rw [hb i hi] at hb'
      exact of_decide_eq_true hb'
    · intro hx
      have := h.mem x hx
      refine ⟨x.toNat, by omega, ?_, by omega⟩
      rw [hb _ (by omega), show ((x.toNat : Nat) : Int) = x by omega]
      exact decide_eq_true hx
  refine ⟨k, ?_, hk, e⟩
  by_cases hz : k = 0
  · subst hz
    exfalso
    apply hM
    rw [← e]
    unfold setL
    simp
  · omega
theorem groupF_best (l : List G) (n : Nat) (hp : ∀ k (h : k < l.length), 0 ≤ l[k].1 ∧ l[k].1 < l[k].2) : ∀ (r : Nat) (g : List Int), Cl l n g →
    Cl l n (groupF l n r g) ∧ (∃ x, groupF l n r g = g ++ x) ∧ ∀ y, Cl l n (g ++ y) → y.length ≤ r → Bt (groupF l n r g) (g ++ y)
  | 0, g, hg => ⟨hg, ⟨[], by simp [groupF]⟩, fun y _ hy => by
      have : y = [] := List.eq_nil_of_length_eq_zero (by omega)
      subst this
      rw [List.append_nil]
      exact Bt.refl _⟩
  | r + 1, g, hg => by
    have ih := groupF_best l n hp r
    have key : ∀ k, k ≤ n → Cl l n (tried l (fun s => groupF l n r (g ++ [(s : Int)])) g k) ∧ (tried l (fun s => groupF l n r (g ++ [(s : Int)])) g k = g ∨ ∃ (s : Nat) (x : List Int), s < k ∧ tried l (fun s => groupF l n r (g ++ [(s : Int)])) g k = g ++ (s : Int) :: x) ∧
        ∀ y, Cl l n (g ++ y) → y.length ≤ r + 1 → (y = [] ∨ ∃ (s : Nat) (x : List Int), s < k ∧ y = (s : Int) :: x) → Bt (tried l (fun s => groupF l n r (g ++ [(s : Int)])) g k) (g ++ y) := by
      intro k
      induction k with
      | zero =>
        intro _
        refine ⟨hg, .inl rfl, fun y _ _ h => ?_⟩
        rcases h with rfl | ⟨s, x, hs, _⟩
        · rw [List.append_nil]; exact Bt.refl _
        · omega
      | succ k ihk =>
        intro hk
        obtain ⟨h1, h2, h3⟩ := ihk (by omega)
        rw [tried_succ]
        generalize tried l (fun s => groupF l n r (g ++ [(s : Int)])) g k = B at h1 h2 h3
        by_cases ha : g.any (apart l (k : Int)) = true
        · rw [if_pos ha]
          refine ⟨h1, ?_, fun y hy hl hor => ?_⟩
          · rcases h2 with h2 | ⟨s, x, hs, h2⟩
            · exact .inl h2
            · exact .inr ⟨s, x, by omega, h2⟩
          · rcases hor with hor | ⟨s, x, hs, rfl⟩
            · exact h3 y hy hl (.inl hor)
            · by_cases e : s = k
              · subst e
                exfalso
                obtain ⟨o, ho, hap⟩ := List.any_eq_true.1 ha
                have := (List.pairwise_append.1 hy.pair).2.2 o ho (s : Int) (by simp)
                simp [apart, this] at hap
              · exact h3 _ hy hl (.inr ⟨s, x, by omega, rfl⟩)
        · rw [if_neg ha]
          have ha' : ∀ o ∈ g, (o, (k : Int)) ∈ l := by
            intro o ho
            have hf : g.any (apart l (k : Int)) = false := by simpa using ha
            rw [List.any_eq_false] at hf
            have := hf o ho
            simpa [apart] using this
          have hgk : Cl l n (g ++ [(k : Int)]) := ⟨fun x hx => by
            rw [List.mem_append, List.mem_singleton] at hx
            rcases hx with hx | rfl
            · exact hg.mem x hx
            · omega, List.pairwise_append.2 ⟨hg.pair, by simp, fun a hma b hmb => by
            rw [List.mem_singleton] at hmb
            subst hmb
            exact ha' a hma⟩⟩
          obtain ⟨f1, ⟨x0, f2⟩, f3⟩ := ih (g ++ [(k : Int)]) hgk
          have f2' : groupF l n r (g ++ [(k : Int)]) = g ++ (k : Int) :: x0 := by rw [f2]; simp
          have hnew : ∀ (N : List Int), Bt N B → Bt N (groupF l n r (g ++ [(k : Int)])) → ∀ y, Cl l n (g ++ y) → y.length ≤ r + 1 → (y = [] ∨ ∃ (s : Nat) (x : List Int), s < k + 1 ∧ y = (s : Int) :: x) → Bt N (g ++ y) := by
            intro N hN1 hN2 y hy hl hor
            rcases hor with hor | ⟨s, x, hs, rfl⟩
            · exact hN1.trans (h3 y hy hl (.inl hor))
            · by_cases e : s = k
              · subst e
                have := f3 x (by simpa using hy) (by simpa using hl)
                refine hN2.trans ?_
                simpa using this
              · exact hN1.trans (h3 _ hy hl (.inr ⟨s, x, by omega, rfl⟩))
          unfold better
          by_cases c : B.length < (groupF l n r (g ++ [(k : Int)])).length
          · rw [if_pos c]
            exact ⟨f1, .inr ⟨k, x0, by omega, f2'⟩, hnew _ (.inl c) (Bt.refl _)⟩
          · rw [if_neg c]
            refine ⟨h1, ?_, hnew _ (Bt.refl _) ?_⟩
            · rcases h2 with h2 | ⟨s, x, hs, h2⟩
              · exact .inl h2
              · exact .inr ⟨s, x, by omega, h2⟩
            · by_cases e : (groupF l n r (g ++ [(k : Int)])).length = B.length
              · refine .inr ⟨e, .inr ?_⟩
                rcases h2 with h2 | ⟨s, x, hs, h2⟩
                · exfalso
                  rw [h2, f2', List.length_append, List.length_cons] at e
                  omega
                · rw [h2, f2']
                  exact lexB_next g s k x x0 (by omega)
              · exact .inl (by omega)
    obtain ⟨h1, h2, h3⟩ := key n (Nat.le_refl _)
    have he : groupF l n (r + 1) g = tried l (fun s => groupF l n r (g ++ [(s : Int)])) g n := rfl
    rw [he]
    refine ⟨h1, ?_, fun y hy hl => h3 y hy hl ?_⟩
    · rcases h2 with h2 | ⟨s, x, hs, h2⟩
      · exact ⟨[], by rw [h2]; simp⟩
      · exact ⟨_, h2⟩
    · cases y with
      | nil => exact .inl rfl
      | cons s x =>
        have := hy.mem s (by simp)
        exact .inr ⟨s.toNat, x, by omega, by rw [show ((s.toNat : Nat) : Int) = s by omega]⟩
theorem Cl.length {l : List G} {n : Nat} {M : List Int} (hp : ∀ k (h : k < l.length), 0 ≤ l[k].1 ∧ l[k].1 < l[k].2) (h : Cl l n M) : M.length ≤ n := by
  have := nodup_small n (M.map Int.toNat) (by
    rw [List.Nodup, List.pairwise_map]
    refine (h.asc hp).imp_of_mem fun {a b} ha hb hab => ?_
    have := h.mem a ha
    have := h.mem b hb
    omega) (by
    intro x hx
    rw [List.mem_map] at hx
    obtain ⟨a, ha, rfl⟩ := hx
    have := h.mem a ha
    omega)
  simpa using this
/-- Both searches find the same group. -/
theorem group_same {l : List G} {n : Nat} (hp : ∀ k (h : k < l.length), 0 ≤ l[k].1 ∧ l[k].1 < l[k].2) (hn : 1 ≤ n) : groupF l n n [] = refBest l n (2 ^ n) ∧ Cl l n (groupF l n n []) := by
  have h0 : Cl l n [] := ⟨fun x hx => by simp at hx, by simp⟩
  obtain ⟨h1, _, h3⟩ := groupF_best l n hp n [] h0
  obtain ⟨g1, g2⟩ := refBest_best l n (2 ^ n) Nat.one_le_two_pow
  refine ⟨?_, h1⟩
  have a1 := h3 (refBest l n (2 ^ n)) (by rw [List.nil_append]; exact g1) (g1.length hp)
  rw [List.nil_append] at a1
  have a2 : groupF l n n [] ≠ [] := by
    intro e
    have := h3 [0] ⟨fun x hx => by simp at hx; omega, by simp⟩ (by simpa using hn)
    rw [e, List.nil_append] at this
    rcases this with h | ⟨h, _⟩ <;> simp at h
  obtain ⟨j, hj1, hj2, hj3⟩ := h1.set hp a2
  have a3 := g2 j hj1 hj2 (by rw [hj3]; exact h1)
  rw [hj3] at a3
  exact a1.antisymm a3
end Go.Proofs.Ytmdmkmfemhkfgaa
