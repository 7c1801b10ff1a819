/- What is known of complementary pairs, in the words of the law CodeComplementary. Plain lemmas; no condition. -/
import Derived.Test.YtnigmdkhecblnaaDoorP7
set_option linter.unusedSimpArgs false
set_option linter.unusedVariables false
namespace Go.Proofs.YtnigmdkhecblnaaDoor
open Go.RowKit
set_option maxRecDepth 100000

theorem codeE_of {l : List Int} (h1 : 1 ≤ l.length) (h2 : l.length ≤ 32) (h : Pm l) : codeE l = 0 := by
  unfold codeE
  have e : lenE l.length 32 = 0 := by rw [lenE_eq, if_neg (by omega), if_neg (by omega)]
  have f : firstBadFrom (fun _ n => codeItem n) 0 l = (0, 0) := firstBadFrom_none _ _ _ fun i hi => by
    unfold codeItem
    rw [if_pos (h _ (List.getElem_mem hi))]
  rw [if_pos e, f]
theorem pairP_good {a b : List Int} (h1 : codeE a = 0) (h2 : codeE b = 0) (h3 : a.length = b.length) (h4 : lobe a b = 0) : pairP a b = (0, 0) := by
  unfold pairP; rw [if_neg (by omega), if_neg (by omega), if_neg (by omega), if_pos h4]
theorem pairP_parts {a b : List Int} (h : (pairP a b).2 = 0) : codeE a = 0 ∧ codeE b = 0 ∧ a.length = b.length ∧ lobe a b = 0 := by
  rw [pairP_of] at h
  by_cases hc : codesE a b = 0
  · rw [if_neg (by omega)] at h
    obtain ⟨q1, q2, q3⟩ := codesE_zero hc
    refine ⟨q1, q2, q3, ?_⟩
    by_cases hz : lobe a b = 0
    · exact hz
    · have : (lobe a b != 0) = true := by simpa using hz
      simp [errIf, this] at h
  · rw [if_pos hc] at h
    exact absurd h hc

/-- Both codes are valid, of one length, and complementary. -/
def Good (a b : List Int) : Prop := pairP a b = (0, 0) ∧ a.length ≤ 1000 ∧ b.length ≤ 1000
section
variable {a b : List Int} (h1 : codeE a = 0) (h2 : codeE b = 0) (h3 : a.length = b.length) (h4 : lobe a b = 0)
include h1 h2 h3 h4
theorem good_swap : Good b a := by
  have ha := codeE_zero h1
  exact ⟨pairP_good h2 h1 h3.symm (lobe_swap h4 h3), by omega, by omega⟩
theorem good_rev : Good a.reverse b := by
  obtain ⟨p1, p2, p3⟩ := codeE_zero h1
  exact ⟨pairP_good (codeE_of (by simpa using p1) (by simpa using p2) (Pm.rev p3)) h2 (by simpa using h3) (lobe_rev h4 h3), by simp; omega, by omega⟩
theorem good_neg : Good a (negL b) := by
  obtain ⟨p1, p2, p3⟩ := codeE_zero h1
  obtain ⟨q1, q2, q3⟩ := codeE_zero h2
  exact ⟨pairP_good h1 (codeE_of (by simpa using q1) (by simpa using q2) (Pm.neg q3)) (by simpa using h3) (lobe_neg h4 h3), by omega, by simp; omega⟩
theorem good_doubled (h5 : 2 * a.length ≤ 32) : Good (a ++ b) (a ++ negL b) := by
  obtain ⟨p1, p2, p3⟩ := codeE_zero h1
  obtain ⟨q1, q2, q3⟩ := codeE_zero h2
  exact ⟨pairP_good (codeE_of (by simp; omega) (by simp; omega) (Pm.app p3 q3)) (codeE_of (by simp; omega) (by simp; omega) (Pm.app p3 (Pm.neg q3))) (by simp) (lobe_doubled h4 h3), by simp; omega, by simp; omega⟩
theorem good_turns (h5 : 2 * a.length ≤ 32) : Good (turnsTo a b a.length) (turnsTo a (negL b) a.length) := by
  obtain ⟨p1, p2, p3⟩ := codeE_zero h1
  obtain ⟨q1, q2, q3⟩ := codeE_zero h2
  exact ⟨pairP_good (codeE_of (by simp; omega) (by simp; omega) (Pm.turns p3 q3 h3)) (codeE_of (by simp; omega) (by simp; omega) (Pm.turns p3 (Pm.neg q3) (by simpa using h3))) (by simp) (lobe_turns h4 h3), by simp; omega, by simp; omega⟩
theorem corr_sum (lag : Int) : corr a a lag + corr b b lag = if lag = 0 then 2 * (a.length : Int) else 0 := by
  have key : ∀ k : Nat, corrN a a k + corrN b b k = if k = 0 then 2 * (a.length : Int) else 0 := fun k => by
    by_cases hk : k = 0
    · subst hk
      rw [corrN_self (codeE_zero h1).2.2, corrN_self (codeE_zero h2).2.2, if_pos rfl]; omega
    · rw [if_neg hk]
      exact lobe_all h4 h3 k (by omega)
  unfold corr
  by_cases hl : lag < 0
  · rw [if_pos hl, if_pos hl, key, if_neg (by omega), if_neg (by omega)]
  · rw [if_neg hl, if_neg hl, key]
    by_cases hz : lag = 0
    · rw [if_pos (by omega), if_pos hz]
    · rw [if_neg (by omega), if_neg hz]
end
theorem corrE_good {a : List Int} (h1 : codeE a = 0) {lag : Int} (h2 : 1 - (a.length : Int) ≤ lag) (h3 : lag ≤ (a.length : Int) - 1) : corrE a a lag = 0 := by
  have e1 : ((a.length : Int) != (a.length : Int)) = false := by simp
  have e2 : outB lag (1 - (a.length : Int)) ((a.length : Int) - 1) = false := outB_false.2 ⟨h2, h3⟩
  unfold corrE
  rw [h1, e1, e2]
  rfl

theorem rev_range (a : List Int) : (List.range a.length).map (fun i => a.getD (a.length - 1 - i) 0) = a.reverse := by
  refine List.ext_getElem (by simp) fun i h1 h2 => ?_
  have h : i < a.length := by simpa using h1
  simp [List.getD, show a.length - 1 - i < a.length by omega]

/-- Pairs in memory, from block g on, two cells each: each of them is good. -/
def GoodAt (w : World) (g m : Nat) : Prop := ∀ k, k < m → ∃ (A B : Option Addr) (a b : List Int) (c d : Nat), w.cell? ⟨g, k * 2, none⟩ = some (.slice A a.length c) ∧ w.cell? ⟨g, k * 2 + 1, none⟩ = some (.slice B b.length d) ∧ Rd w A (ints a) ∧ Rd w B (ints b) ∧ Good a b

theorem own_of_blk {w : World} {g size n : Nat} {e : TypeId} {cs : List Value} (h : Blk w g e cs) (hl : cs.length = n * size) (hm : n ≤ maxLen) : w.ownsRow g e size (.slice (some ⟨g, 0, none⟩) n n) n cs :=
  ⟨hl, .inr ⟨g, n, cs.toArray, rfl, Nat.le_refl _, h, Nat.le_refl _, hm, by simpa using hl, by simpa using List.take_of_length_le (Nat.le_of_eq hl)⟩⟩

theorem own_cell {w : World} {base e size n g cap : Nat} {xs : List Value} (h : w.ownsRow base e size (.slice (some ⟨g, 0, none⟩) n cap) n xs) {j : Nat} {u : Value} (hu : xs[j]? = some u) : w.cell? ⟨g, j, none⟩ = some u := by
  have := h.cells (g := g) rfl j u hu
  rwa [show (⟨g, 0, none⟩ : Addr).add j = ⟨g, j, none⟩ by unfold Addr.add; split <;> simp_all] at this
/-- What a row of the call's own takes when it grows, leaves blocks of another type as they were. -/
theorem ownKeep {W W' : World} {base n size : Nat} {t e : TypeId} {v : Value} {xs : List Value} (h : W.ownsRow base e size v n xs) (hg : W.grownBy W' v.ownBlock) (hne : t ≠ e) : KeepT t W W' := by
  refine ⟨hg.size, fun b cs fr hb => ?_⟩
  refine (hg.block b (Array.getElem?_eq_some_iff.1 hb).1 ?_).trans hb
  rcases h.2 with ⟨rfl, _⟩ | ⟨g, cap, cur, rfl, _, hh, _⟩
  · simp [Value.ownBlock]
  · intro e1
    have : b = g := by simpa [Value.ownBlock] using e1
    subst this
    rw [hh] at hb
    injection hb with hb
    injection hb with _ ht
    exact hne ht.symm

/-- All blocks but g are as they were. -/
structure KG (X : World) (g : Nat) (w : World) : Prop where
  size : X.heap.size ≤ w.heap.size
  block : ∀ b, b ≠ g → b < X.heap.size → w.heap[b]? = X.heap[b]?
section
variable {X w w' : World} {g : Nat}
theorem KG.refl (X : World) (g : Nat) : KG X g X := ⟨Nat.le_refl _, fun _ _ _ => rfl⟩
theorem KG.drew (h : KG X g w) : KG X g w.drew := ⟨h.size, h.block⟩
theorem KG.bel (h : KG X g w) (hb : Below w.heap.size w w') : KG X g w' := ⟨Nat.le_trans h.size hb.size, fun b hn hl => (hb.block b (Nat.lt_of_lt_of_le hl h.size)).trans (h.block b hn hl)⟩
theorem KG.alloc (h : KG X g w) (o : Obj) : KG X g (w.alloc o) := h.bel (alloc_bel _ _)
theorem KG.grown (h : KG X g w) (hg : w.grownBy w' (some g)) : KG X g w' := ⟨Nat.le_trans h.size hg.size, fun b hn hl => (hg.block b (Nat.lt_of_lt_of_le hl h.size) (by simpa using hn)).trans (h.block b hn hl)⟩
theorem KG.cells (h : KG X g w) : ∀ b o, b ≠ g → b < X.heap.size → w.cell? ⟨b, o, none⟩ = X.cell? ⟨b, o, none⟩ := fun b _ hn hl => World.cell?_of_block (h.block b hn hl)
end
end Go.Proofs.YtnigmdkhecblnaaDoor
