/- Contracts: new lines. -/
import Derived.Test.YtmedjedmeggbpaaDoorW14
namespace Go.Proofs.YtmedjedmeggbpaaDoor
open Go.RowKit
set_option maxRecDepth 100000

theorem gs_zeros (n : Nat) : gs (List.replicate n (0, 0)) = List.replicate (n * 2) (.int .i64 0) := gs_replicate n
theorem ints_zeros (n : Nat) : ints (List.replicate n 0) = List.replicate n (.int .i64 0) := by simp [ints]

theorem new3 (w : World) (t1 t2 t3 : TypeId) (l1 l2 l3 : List Value) :
    ∃ W, (((w.alloc (.cells l1.toArray t1)).alloc (.cells l2.toArray t2)).alloc (.cells l3.toArray t3)).drew = W ∧ Blk W w.heap.size t1 l1 ∧ Blk W (w.heap.size + 1) t2 l2 ∧ Blk W (w.heap.size + 1 + 1) t3 l3 ∧ Below w.heap.size w W := by
  refine ⟨_, rfl, ?_, ?_, ?_, ((((Below.refl _ _).alloc (Nat.le_refl _) _).alloc (by simp) _).alloc (by simp; omega) _).drew⟩
  · refine Blk.below (B := w.heap.size + 1) (Blk.new w t1 l1) ?_ (by omega)
    exact (((Below.refl _ _).alloc (by simp) _).alloc (by simp) _).drew
  · have h0 := Blk.new (w.alloc (.cells l1.toArray t1)) t2 l2
    rw [show (w.alloc (.cells l1.toArray t1)).heap.size = w.heap.size + 1 from by simp] at h0
    refine Blk.below (B := w.heap.size + 2) h0 ?_ (by omega)
    exact ((Below.refl _ _).alloc (by simp) _).drew
  · have h0 := Blk.new ((w.alloc (.cells l1.toArray t1)).alloc (.cells l2.toArray t2)) t3 l3
    rw [show ((w.alloc (.cells l1.toArray t1)).alloc (.cells l2.toArray t2)).heap.size = w.heap.size + 1 + 1 from by simp] at h0
    exact h0.drewN 1

theorem newLine_c (n : Nat) (w : World) (hn : n ≤ 1000) :
    Calls Tryd.prog 118 #[.int .i64 n] w fun r w' => ∃ a b : Nat, r = .returned (.agg #[.slice (some ⟨a, 0, none⟩) n n, .slice (some ⟨b, 0, none⟩) n n]) ∧ a ≠ b ∧ w.heap.size ≤ a ∧ w.heap.size ≤ b ∧
      Blk w' a 76 (gs (List.replicate n (0, 0))) ∧ Blk w' b 3 (ints (List.replicate n 0)) ∧ Below w.heap.size w w' := by
  obtain ⟨i0, hi, iz0, iz1, iz2⟩ := info_parts Tryd.info76
  obtain ⟨i1, hj, jz0, jz1, jz2⟩ := info_parts Tryd.info3
  have hm1 : ∀ W, (Instr.makeSlice 30 (.int .i64 (n : Int)) (.int .i64 (n : Int))).run Tryd.prog W = .ok (.slice (some ⟨W.heap.size, 0, none⟩) n n) (W.alloc (.cells (gs (List.replicate n (0, 0))).toArray 76)) := fun W => by
    have h1 := run_make_rowN (P := Tryd.prog) 30 76 i0 _ Tryd.underlying30 hi iz0 .i64 .i64 n n (Nat.le_refl _) (by rw [iz2]; omega) (by omega) W
    have h2 := madeCells_g n
    rw [iz1] at h1
    rw [h1]
    congr 3
    rw [← h2]
  have hm2 : ∀ W, (Instr.makeSlice 22 (.int .i64 (n : Int)) (.int .i64 (n : Int))).run Tryd.prog W = .ok (.slice (some ⟨W.heap.size, 0, none⟩) n n) (W.alloc (.cells (ints (List.replicate n 0)).toArray 3)) := fun W => by
    have h1 := run_make_rowN (P := Tryd.prog) 22 3 i1 _ Tryd.underlying22 hj jz0 .i64 .i64 n n (Nat.le_refl _) (by rw [jz2]; omega) (by omega) W
    have h2 := madeCells_one (.int .i64 0) rfl n
    rw [jz1] at h1
    rw [h1]
    congr 3
    rw [ints_zeros, ← h2]
  go_enter Tryd.func118, Tryd.ntmps118
  go_upto_region 1 with fail
  go_region_held3 (fun _ => True) (trivial) (fail)
  · obtain ⟨W, hW, B1, B2, B3, hB⟩ := new3 w 89 76 3 [.slice (some ⟨w.heap.size + 1, 0, none⟩) n n, .slice (some ⟨w.heap.size + 1 + 1, 0, none⟩) n n] (gs (List.replicate n (0, 0))) (ints (List.replicate n 0))
    go_wp2_with fail
    rw [hW]
    have g0 := B1.cell 0
    have g1 := B1.cell 1
    simp only [List.getElem?_cons_zero, List.getElem?_cons_succ] at g0 g1
    clear hW
    try simp only [Exit.inBlock, Exit.then]
    refine bodyPost_ret (by simp [results, Tryd.results118, go_sem, g0, g1]; try rfl) rfl ?_
    exact ⟨_, _, rfl, by omega, by omega, by omega, B2, B3, hB⟩
  · obtain ⟨W, hW, B1, B2, B3, hB⟩ := new3 w 89 3 76 [.slice (some ⟨w.heap.size + 1 + 1, 0, none⟩) n n, .slice (some ⟨w.heap.size + 1, 0, none⟩) n n] (ints (List.replicate n 0)) (gs (List.replicate n (0, 0)))
    go_wp2_with fail
    rw [hW]
    have g0 := B1.cell 0
    have g1 := B1.cell 1
    simp only [List.getElem?_cons_zero, List.getElem?_cons_succ] at g0 g1
    clear hW
    try simp only [Exit.inBlock, Exit.then]
    refine bodyPost_ret (by simp [results, Tryd.results118, go_sem, g0, g1]; try rfl) rfl ?_
    exact ⟨_, _, rfl, by omega, by omega, by omega, B3, B2, hB⟩
end Go.Proofs.YtmedjedmeggbpaaDoor
