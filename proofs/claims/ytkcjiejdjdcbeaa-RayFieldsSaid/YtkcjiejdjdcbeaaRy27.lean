/- Contracts: the skies of the examples. -/
import Derived.Test.YtkcjiejdjdcbeaaRy15
set_option linter.unusedSimpArgs false
set_option linter.unusedVariables false
set_option linter.unusedSimpArgs false
set_option linter.unusedVariables false
namespace Go.Proofs.Ytkcjiejdjdcbeaa
open Go.RowKit
set_option maxRecDepth 100000

def skyL : List G := [(50, 90000), (50, 360000), (50, 810000)]
def oneL : List G := [(50, 810000)]
theorem blk_otherS {w : World} {b q o : Nat} {t : TypeId} {cs : List Value} {u : Value} (h : Blk w b t cs) (hb : b ≠ q) : Blk (w.setCell ⟨q, o, none⟩ u) b t cs := (Below.heap_setCell _ _ _ _ hb).trans h
theorem law05One_c (w : World) : Calls Try.prog 89 #[] w fun r w' => (∃ A, r = .returned (.agg #[.int .i64 100, .slice A 1 1]) ∧ Rd w' A (gs oneL)) ∧ Below w.heap.size w w' := by
  obtain ⟨p, hp⟩ : ∃ p, w.heap.size = p := ⟨_, rfl⟩
  obtain ⟨p1, hp1⟩ : ∃ p1, p + 1 = p1 := ⟨_, rfl⟩
  obtain ⟨Wa, hWa⟩ : ∃ Wa, w.alloc (.cells #[.int .i64 0, .slice none 0 0] 24) = Wa := ⟨_, rfl⟩
  have sa : Wa.heap.size = p1 := by rw [← hWa, ← hp1, ← hp]; simp
  have ba : Below p w Wa := by rw [← hWa, ← hp]; exact alloc_bel _ _
  have bb : Below Wa.heap.size Wa (Wa.alloc (.cells #[.int .i64 50, .int .i64 810000] 79)) := alloc_bel _ _
  have ka : Blk Wa p 24 [.int .i64 0, .slice none 0 0] := by rw [← hWa, ← hp]; exact Blk.new w _ [_, _]
  have kb : Blk (Wa.alloc (.cells #[.int .i64 50, .int .i64 810000] 79)) p1 79 (gs oneL) := by rw [← sa]; exact Blk.new Wa _ (gs oneL)
  have k1 := ka.bel bb
  have hB : Below p w (Wa.alloc (.cells #[.int .i64 50, .int .i64 810000] 79)) := ba.trans (bb.mono (by omega))
  have HA := hide hWa
  clear hWa ba bb ka
  obtain ⟨x0, x1, f0, f1⟩ := blk_two k1
  go_enter Try.func89, Try.ntmps89
  go_upto_region 1 with fail
  try simp only [hp]
  rw [HA.out]
  go_wp2
  obtain ⟨WE, hWE⟩ : ∃ WE, ((Wa.alloc (.cells #[.int .i64 50, .int .i64 810000] 79)).setCell ⟨p, 0, none⟩ (.int .i64 100)).setCell ⟨p, 1, none⟩ (.slice (some ⟨p1, 0, none⟩) 1 1) = WE := ⟨_, rfl⟩
  rw [hWE]
  have hE : Blk WE p 24 [.int .i64 100, .slice (some ⟨p1, 0, none⟩) 1 1] := by rw [← hWE]; exact (k1.set_ 0 _).set_ 1 _
  have hF : Blk WE p1 79 (gs oneL) := by rw [← hWE]; exact blk_otherS (blk_otherS kb (by omega)) (by omega)
  have hBE : Below p w WE := by rw [← hWE]; exact (hB.setCell (Nat.le_refl _) _).setCell (Nat.le_refl _) _
  clear hWE x0 x1 f0 f1 k1 kb
  have g0 := hE.cell 0; have g1 := hE.cell 1; simp only [List.getElem?_cons_zero, List.getElem?_cons_succ] at g0 g1
  exact bodyPost_ret (v := .agg #[.int .i64 100, .slice (some ⟨p1, 0, none⟩) 1 1]) (by simp [results, Try.results89, go_sem, g0, g1]; try rfl) rfl ⟨⟨_, rfl, hF.rd (List.prefix_refl _)⟩, by first | exact hBE | (rw [hp]; exact hBE)⟩
theorem law05Sky_c (w : World) : Calls Try.prog 88 #[] w fun r w' => (∃ A, r = .returned (.agg #[.int .i64 100, .slice A 3 3]) ∧ Rd w' A (gs skyL)) ∧ Below w.heap.size w w' := by
  obtain ⟨p, hp⟩ : ∃ p, w.heap.size = p := ⟨_, rfl⟩
  obtain ⟨p1, hp1⟩ : ∃ p1, p + 1 = p1 := ⟨_, rfl⟩
  obtain ⟨Wa, hWa⟩ : ∃ Wa, w.alloc (.cells #[.int .i64 0, .slice none 0 0] 24) = Wa := ⟨_, rfl⟩
  have sa : Wa.heap.size = p1 := by rw [← hWa, ← hp1, ← hp]; simp
  have ba : Below p w Wa := by rw [← hWa, ← hp]; exact alloc_bel _ _
  have bb : Below Wa.heap.size Wa (Wa.alloc (.cells #[.int .i64 50, .int .i64 90000, .int .i64 50, .int .i64 360000, .int .i64 50, .int .i64 810000] 79)) := alloc_bel _ _
  have ka : Blk Wa p 24 [.int .i64 0, .slice none 0 0] := by rw [← hWa, ← hp]; exact Blk.new w _ [_, _]
  have kb : Blk (Wa.alloc (.cells #[.int .i64 50, .int .i64 90000, .int .i64 50, .int .i64 360000, .int .i64 50, .int .i64 810000] 79)) p1 79 (gs skyL) := by rw [← sa]; exact Blk.new Wa _ (gs skyL)
  have k1 := ka.bel bb
  have hB : Below p w (Wa.alloc (.cells #[.int .i64 50, .int .i64 90000, .int .i64 50, .int .i64 360000, .int .i64 50, .int .i64 810000] 79)) := ba.trans (bb.mono (by omega))
  have HA := hide hWa
  clear hWa ba bb ka
  obtain ⟨x0, x1, f0, f1⟩ := blk_two k1
  go_enter Try.func88, Try.ntmps88
  go_upto_region 1 with fail
  try simp only [hp]
  rw [HA.out]
  go_wp2
  obtain ⟨WE, hWE⟩ : ∃ WE, ((Wa.alloc (.cells #[.int .i64 50, .int .i64 90000, .int .i64 50, .int .i64 360000, .int .i64 50, .int .i64 810000] 79)).setCell ⟨p, 0, none⟩ (.int .i64 100)).setCell ⟨p, 1, none⟩ (.slice (some ⟨p1, 0, none⟩) 3 3) = WE := ⟨_, rfl⟩
  rw [hWE]
  have hE : Blk WE p 24 [.int .i64 100, .slice (some ⟨p1, 0, none⟩) 3 3] := by rw [← hWE]; exact (k1.set_ 0 _).set_ 1 _
  have hF : Blk WE p1 79 (gs skyL) := by rw [← hWE]; exact blk_otherS (blk_otherS kb (by omega)) (by omega)
  have hBE : Below p w WE := by rw [← hWE]; exact (hB.setCell (Nat.le_refl _) _).setCell (Nat.le_refl _) _
  clear hWE x0 x1 f0 f1 k1 kb
  have g0 := hE.cell 0; have g1 := hE.cell 1; simp only [List.getElem?_cons_zero, List.getElem?_cons_succ] at g0 g1
  exact bodyPost_ret (v := .agg #[.int .i64 100, .slice (some ⟨p1, 0, none⟩) 3 3]) (by simp [results, Try.results88, go_sem, g0, g1]; try rfl) rfl ⟨⟨_, rfl, hF.rd (List.prefix_refl _)⟩, by first | exact hBE | (rw [hp]; exact hBE)⟩
end Go.Proofs.Ytkcjiejdjdcbeaa
