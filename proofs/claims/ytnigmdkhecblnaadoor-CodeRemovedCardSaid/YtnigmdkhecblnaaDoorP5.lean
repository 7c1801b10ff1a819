/- Contracts: the reference's opposite code, a copy that the call owns, copies of pairs, equal pairs. -/
import Derived.Test.YtnigmdkhecblnaaDoorP4
set_option linter.unusedSimpArgs false
set_option linter.unusedVariables false
namespace Go.Proofs.YtnigmdkhecblnaaDoor
open Go.RowKit
set_option maxRecDepth 100000

theorem own_some {w : World} {base : Nat} {e : TypeId} {size n : Nat} {v : Value} {xs : List Value} (h : w.ownsRow base e size v n xs) (h1 : 1 ≤ n) : ∃ g cap, v = .slice (some ⟨g, 0, none⟩) n cap ∧ base ≤ g ∧ g < w.heap.size := by
  rcases h.2 with ⟨rfl, rfl⟩ | ⟨g, cap, cur, rfl, hb, hg, _⟩
  · omega
  · exact ⟨g, cap, rfl, hb, (Array.getElem?_eq_some_iff.1 hg).1⟩
theorem own_base {w : World} {base e size n g cap : Nat} {xs : List Value} (h : w.ownsRow base e size (.slice (some ⟨g, 0, none⟩) n cap) n xs) : w.ownsRow g e size (.slice (some ⟨g, 0, none⟩) n cap) n xs := by
  refine ⟨h.1, ?_⟩
  rcases h.2 with ⟨h2, _⟩ | ⟨g', cap', cur, h2, _, rest⟩
  · cases h2
  · injection h2 with e1 _ e3
    injection e1 with e1
    injection e1 with e1
    subst e1 e3
    exact .inr ⟨g, cap, cur, rfl, Nat.le_refl _, rest⟩

theorem copyOwn_c (l : List Int) (A : Option Addr) (c : Nat) (w : World) (hr : Rd w A (ints l)) (hl : l.length ≤ 100000) (h1 : 1 ≤ l.length) :
    Calls Tryd.prog 10 #[.slice A l.length c] w fun r w' => (∃ g c', r = .returned (.slice (some ⟨g, 0, none⟩) l.length c') ∧ w'.ownsRow g 3 1 (.slice (some ⟨g, 0, none⟩) l.length c') l.length (ints l) ∧ w.heap.size ≤ g ∧ g < w'.heap.size) ∧ Below w.heap.size w w' := by
  obtain ⟨i0, hi, iz0, iz1, iz2⟩ := info_parts Tryd.info3
  go_enter Tryd.func10, Tryd.ntmps10
  go_wp2_with (first | (at_builtin; refine wpList_append_rd _ rfl _ _ 23 rfl w.heap.size 3 i0 (.int .i64 0) 1 8 Tryd.underlying23 hi iz0 iz1 iz2 rfl (by decide) (.slice (some ⟨w.heap.size, 0, none⟩) 0 0) 0 [] rfl (World.ownsRow_made w #[] 0 (Nat.le_refl _) (by unfold maxLen; omega) rfl) A l.length c (ints l) rfl (by simp) (hr.alloc _) (ints_one l) (by unfold maxLen; omega) (by omega) (by simp) ?_; intro v' w1 hown1 hg1))
  rw [Nat.zero_add, List.nil_append] at hown1
  obtain ⟨g, c', rfl, hgg, hgl⟩ := own_some hown1 h1
  have hb : Below w.heap.size w w1 := ((Below.refl _ _).alloc (Nat.le_refl _) (.cells #[] 3)).grown hg1 (by simp) (by simp [Value.ownBlock])
  go_ret
  exact ⟨⟨g, c', rfl, own_base hown1, hgg, hgl⟩, hb⟩

theorem ints_eq (l : List Int) (A B : Option Addr) (c d : Nat) (w : World) (hr : Rd w A (ints l)) (hs : Rd w B (ints l)) (hl : l.length ≤ 1000) :
    Calls Tryd.prog 17 #[.slice A l.length c, .slice B l.length d] w fun r w' => r = .returned (.bool true) ∧ Below w.heap.size w w' := by
  have h := ints_c l l A B c d w hr hs hl
  rw [decide_eq_true rfl] at h
  exact h

end Go.Proofs.YtnigmdkhecblnaaDoor
