/- Contracts: a product of small numbers, one number repeated. -/
import Derived.Test.YtmdmkmfemhkfgaaE43
import Derived.Laws.CopyRow
import Derived.Laws.CopyOwn
set_option linter.unusedSimpArgs false
set_option linter.unusedVariables false
set_option linter.unusedSimpArgs false
set_option linter.unusedVariables false
namespace Go.Proofs.Ytmdmkmfemhkfgaa
open Go.RowKit
set_option maxRecDepth 100000

theorem and_all : ∀ c : Fin 256, bits .and .u64 ((c.1 : Nat) : Int) 4294967295 = ((c.1 : Nat) : Int) := by decide +kernel
theorem and_low {c : Int} (h0 : 0 ≤ c) (h1 : c < 256) : bits .and .u64 c 4294967295 = c := by
  have := and_all ⟨c.toNat, by omega⟩
  rwa [show ((c.toNat : Nat) : Int) = c by omega] at this
theorem shr_low {c : Int} (h0 : 0 ≤ c) (h1 : c < 256) : c / 4294967296 = 0 := by omega
set_option maxHeartbeats 1000000 in
theorem mul64_c (c : Int) (h0 : 0 ≤ c) (h1 : c < 256) (w : World) :
    Calls Try.prog 105 #[.int .u64 1, .int .u64 c] w fun r w' => r = .returned (.tuple #[.int .u64 0, .int .u64 c]) ∧ w = w' := by
  have e1 := and_low h0 h1
  have e2 := shr_low h0 h1
  have e3 : bits .and .u64 1 4294967295 = 1 := by decide
  have e4 : bits .and .u64 0 4294967295 = 0 := by decide
  have e5 : IntKind.u64.wrap c = c := by simp [IntKind.wrap, IntKind.signed, IntKind.bits]; omega
  go_enter Try.func105, Try.ntmps105
  go_wp2
  go_ret2
  exact ⟨rfl, rfl⟩
theorem mul_c (c : Int) (h0 : 0 ≤ c) (h1 : c < 256) (w : World) :
    Calls Try.prog 101 #[.int .u64 1, .int .u64 c] w fun r w' => r = .returned (.tuple #[.int .u64 0, .int .u64 c]) ∧ w = w' := by
  have HM := hide (fun W => mul64_c c h0 h1 W)
  go_enter Try.func101, Try.ntmps101
  go_wp2_with (first | (go_at_call 105; refine (HM.out _).mono ?_; rintro e_ w_ ⟨rfl, rfl⟩))
  go_ret2
  exact ⟨rfl, rfl⟩
/-- A row of m cells, the first k of which hold the number. -/
def fillV (m : Nat) (v : Int) (k : Nat) : List Value := List.replicate k (.int .i64 v) ++ List.replicate (m - k) (.int .i64 0)
theorem fillV_length {m k : Nat} (v : Int) (h : k ≤ m) : (fillV m v k).length = m := by simp [fillV]; omega
theorem fillV_splice {m k j : Nat} (v : Int) (h : k + j ≤ m) : splice (fillV m v k) k (List.replicate j (.int .i64 v)) = fillV m v (k + j) := by
  unfold splice fillV
  rw [List.take_append_of_le_length (by simp), List.take_of_length_le (by simp), List.drop_append, List.drop_eq_nil_of_le (by simp), List.nil_append, List.length_replicate, List.drop_replicate, List.length_replicate, ← List.append_assoc, List.replicate_append_replicate]
  congr 2
  omega
theorem fillV_at {m k j : Nat} (v : Int) (h : j < k) : (fillV m v k)[j]? = some (.int .i64 v) := by
  unfold fillV
  rw [List.getElem?_append_left (by simpa using h), List.getElem?_replicate, if_pos h]
set_option maxHeartbeats 2000000 in
theorem repeat_c (v : Int) (m : Nat) (A : Option Addr) (c : Nat) (w : World) (hr : Rd w A (ints [v])) (hm1 : 1 ≤ m) (hm : m ≤ 200) :
    Calls Try.prog 91 #[.slice A 1 c, .int .i64 (m : Int)] w fun r w' => (∃ A' c', r = .returned (.slice A' m c') ∧ Rd w' A' (ints (List.replicate m v))) ∧ Below w.heap.size w w' := by
  obtain ⟨i0, hi, iz0, iz1, iz2⟩ := info_parts Try.infoN
  have hsz : (Try.prog.info? 3).map (·.size) = some 1 := by rw [hi]; simp [iz1]
  have HM := hide (fun W => mul_c (m : Int) (by omega) (by omega) W)
  have e1 : IntKind.u64.wrap (m : Int) = (m : Int) := by simp [IntKind.wrap, IntKind.signed, IntKind.bits]; omega
  have e2 : IntKind.i64.wrap (m : Int) = (m : Int) := by simp (disch := omega) only [IntWalk.i64_in]
  have e3 : ¬ (m : Int) < 0 := by omega
  have e4 : decide ((9223372036854775807 : Int) < (m : Int)) = false := decide_eq_false (by omega)
  have e5 : ¬ (9223372036854775807 : Int) < (m : Int) := by omega
  have q : ∀ W, (Instr.makeSlice 47 (.int .i64 (m : Int)) (.int .i64 (m : Int))).run Try.prog W = .ok (.slice (some ⟨W.heap.size, 0, none⟩) m m) (W.alloc (.cells (Array.replicate m (.int .i64 0)) 3)) := fun W => by
    rw [run_make_rowN 47 3 i0 (.int .i64 0) Try.underlying47 hi iz0 .i64 .i64 m m (Nat.le_refl _) (by rw [iz2]; omega) (by omega) W, iz1, ← List.toArray_replicate, ← madeCells_one (.int .i64 0) rfl m]
  obtain ⟨b0, off0, hA, hb0, x0⟩ : ∃ b off, A = some ⟨b, off, none⟩ ∧ b < w.heap.size ∧ w.cell? ⟨b, off, none⟩ = some (.int .i64 v) := by
    obtain ⟨b, off, h1, h2, h3⟩ := hr.int_at (show 0 < [v].length by simp)
    exact ⟨b, off, h1, h2, by simpa using h3⟩
  subst hA
  obtain ⟨g, hg⟩ : ∃ g, w.heap.size = g := ⟨_, rfl⟩
  obtain ⟨W1, hW1⟩ : ∃ W1, w.alloc (.cells (Array.replicate m (.int .i64 0)) 3) = W1 := ⟨_, rfl⟩
  have hG1 : W1.heap[g]? = some (.cells (List.replicate m (.int .i64 0)).toArray 3 (0, 0)) := by rw [← hW1, ← hg, List.toArray_replicate]; exact heap_alloc_new w _
  have hB1 : Below g w W1 := by rw [← hW1, ← hg]; exact alloc_bel _ _
  have x1 : W1.cell? ⟨b0, off0, none⟩ = some (.int .i64 v) := (hB1.cell (p := ⟨b0, off0, none⟩) (by show b0 < g; omega)).trans x0
  have HW := hide hW1
  clear hW1
  go_enter Try.func91, Try.ntmps91
  go_upto_region 7 with (first | (go_at_call 101; refine (HM.out _).mono ?_; rintro e_ w_ ⟨rfl, rfl⟩))
  try rw [hg]
  rw [HW.out]
  obtain ⟨Z, hZ⟩ : ∃ Z, Z = fillV m v 0 := ⟨_, rfl⟩
  rw [show List.replicate m (Value.int .i64 0) = Z by rw [hZ]; simp [fillV]] at hG1
  have hZl : Z.length = m := by rw [hZ]; exact fillV_length v (by omega)
  obtain ⟨X, hX⟩ : ∃ X, X = [Value.int .i64 v] := ⟨_, rfl⟩
  have hXl : X.length = 1 := by rw [hX]; rfl
  refine wp_region_lit ?_
  iterate 6 go_step
  refine wpList_copy_splice rfl _ _ _ _ rfl 3 Try.underlying47 hsz _ _ _ _ _ _ rfl rfl g 0 Z 3 hG1 X (by rw [hXl]; exact (Nat.min_eq_left hm1).symm) (fun _ => ⟨rfl, _, rfl, fun j u hu => by rw [hX] at hu; cases j with | zero => simp at hu; rw [← hu]; exact x1 | succ j => simp at hu⟩) (by omega) (by rw [hX]; simp [Value.oneCell']) g w hB1 (Nat.le_refl _) ?_
  intro w2 HG2 hB2
  rw [hXl, show goInt ((1 : Nat) : Int) = Value.int .i64 1 from rfl]
  simp only [Act.put, List.getElem_toArray, List.getElem_cons_zero, List.getElem_cons_succ, List.setIfInBounds_toArray, List.set_cons_zero, List.set_cons_succ]
  have HF2 : Hid (w2.heap[g]? = some (.cells (fillV m v 1).toArray 3 (0, 0))) := by
    show _ = _
    rw [HG2.out, hZ, hX]
    have := fillV_splice (m := m) (k := 0) (j := 1) v (by omega)
    rw [Nat.zero_add] at this
    rw [← this]
    rfl
  clear HG2 hG1 hX hZ x1 q HM HW
  go_wp2
  go_loopw [8] (fun n wr => ∃ k : Nat, 1 ≤ k ∧ k ≤ m ∧ n = .int .i64 k ∧ Below g w wr ∧ Hid (wr.heap[g]? = some (.cells (fillV m v k).toArray 3 (0, 0)))) (fun n _ => m - (intOf n).toNat)
  case atStart => exact ⟨1, Nat.le_refl _, hm1, rfl, hB2, HF2⟩
  case round =>
    obtain ⟨k, hk1, hk, rfl, hbr, HF⟩ := hrel
    by_cases hlt : k < m
    · have p1 : (k : Int) < (m : Int) := by omega
      have hne : ¬ (m = k) := by omega
      obtain ⟨j, hj⟩ : ∃ j, Hid (j = Nat.min k (m - k)) := ⟨_, rfl⟩
      have hjk : j ≤ k := by rw [hj.out]; exact Nat.min_le_left _ _
      have hjm : k + j ≤ m := by have : j ≤ m - k := by rw [hj.out]; exact Nat.min_le_right _ _
                                 omega
      have hj1 : 1 ≤ j := by
        rw [hj.out]
        exact Nat.le_min.2 ⟨hk1, by omega⟩
      obtain ⟨X, hX⟩ : ∃ X, X = List.replicate j (Value.int .i64 v) := ⟨_, rfl⟩
      have hXl : X.length = j := by rw [hX]; simp
      obtain ⟨Z, hZ⟩ : ∃ Z, Z = fillV m v k := ⟨_, rfl⟩
      have hZl : Z.length = m := by rw [hZ]; exact fillV_length v hk
      have hZa : ∀ i, i < k → Z[i]? = some (.int .i64 v) := fun i hi => by rw [hZ]; exact fillV_at v hi
      have hsp : Hid (splice Z k X = fillV m v (k + j)) := by show _ = _; rw [hZ, hX]; exact fillV_splice v hjm
      rw [← hZ] at HF
      go_upto_region 9 with fail
      have hSd : Below g w wr.drew ∧ True := ⟨hbr.drew, trivial⟩
      have HFd : wr.drew.heap[g]? = some (.cells Z.toArray 3 (0, 0)) := HF.out
      refine wp_region_held (S := fun w' => Below g w w' ∧ True) (by kernel_rfl) ?_
      change wpAnyH _ _ _ _ _ _ _ _ wr.drew
      refine wpAnyH_take (i := 0) (v := ?_) rfl (by kernel_rfl) (by kernel_rfl) (by kernel_rfl) (fun _ _ _ h => h) (Or.inl ⟨by kernel_rfl, ?_⟩) (by assumption) ?_
      rotate_left 1
      · (intro w hSw; obtain ⟨hk1, hk2⟩ := hSw; go_simp <;> with_reducible rfl)
      simp only [Act.put, List.getElem_toArray, List.getElem_cons_zero, List.setIfInBounds_toArray, List.set_cons_zero, List.set_cons_succ]
      refine wpAnyH_take (i := 1) (v := ?_) rfl (by kernel_rfl) (by kernel_rfl) (by kernel_rfl) (fun _ _ _ h => h) (Or.inl ⟨by kernel_rfl, ?_⟩) (by assumption) ?_
      rotate_left 1
      · (intro w hSw; obtain ⟨hk1, hk2⟩ := hSw; go_simp <;> with_reducible rfl)
      simp only [Act.put, List.getElem_toArray, List.getElem_cons_zero, List.getElem_cons_succ, List.setIfInBounds_toArray, List.set_cons_zero, List.set_cons_succ]
      refine wpAnyH_take (i := 2) (v := ?_) rfl (by kernel_rfl) (by kernel_rfl) (by kernel_rfl) (fun _ _ _ h => h) (Or.inl ⟨by kernel_rfl, ?_⟩) (by assumption) ?_
      rotate_left 1
      · (intro w hSw; obtain ⟨hk1, hk2⟩ := hSw; go_simp <;> with_reducible rfl)
      simp only [Act.put, List.getElem_toArray, List.getElem_cons_zero, List.getElem_cons_succ, List.setIfInBounds_toArray, List.set_cons_zero, List.set_cons_succ]
      refine wpAnyH_take (i := 3) (v := ?_) rfl (by kernel_rfl) (by kernel_rfl) (by kernel_rfl) (fun _ _ _ h => h) (Or.inl ⟨by kernel_rfl, ?_⟩) (by assumption) ?_
      rotate_left 1
      · (intro w hSw; obtain ⟨hk1, hk2⟩ := hSw; go_simp <;> with_reducible rfl)
      simp only [Act.put, List.getElem_toArray, List.getElem_cons_zero, List.getElem_cons_succ, List.setIfInBounds_toArray, List.set_cons_zero, List.set_cons_succ]
      refine wpAnyH_take (i := 4) (v := ?_) rfl (by kernel_rfl) (by kernel_rfl) (by kernel_rfl) (fun _ _ _ h => h) (Or.inl ⟨by kernel_rfl, ?_⟩) (by assumption) ?_
      rotate_left 1
      · (intro w hSw; obtain ⟨hk1, hk2⟩ := hSw; go_simp <;> with_reducible rfl)
      simp only [Act.put, List.getElem_toArray, List.getElem_cons_zero, List.getElem_cons_succ, List.setIfInBounds_toArray, List.set_cons_zero, List.set_cons_succ]
      refine wpAnyH_take (i := 5) (v := ?_) rfl (by kernel_rfl) (by kernel_rfl) (by kernel_rfl) (fun _ _ _ h => h) (Or.inl ⟨by kernel_rfl, ?_⟩) (by assumption) ?_
      rotate_left 1
      · (intro w hSw; obtain ⟨hk1, hk2⟩ := hSw; go_simp <;> with_reducible rfl)
      simp only [Act.put, List.getElem_toArray, List.getElem_cons_zero, List.getElem_cons_succ, List.setIfInBounds_toArray, List.set_cons_zero, List.set_cons_succ]
      refine wpAnyH_take (i := 6) (v := ?_) rfl (by kernel_rfl) (by kernel_rfl) (by kernel_rfl) (fun _ _ _ h => h) (Or.inl ⟨by kernel_rfl, ?_⟩) (by assumption) ?_
      rotate_left 1
      · (intro w hSw; obtain ⟨hk1, hk2⟩ := hSw; go_simp <;> with_reducible rfl)
      simp only [Act.put, List.getElem_toArray, List.getElem_cons_zero, List.getElem_cons_succ, List.setIfInBounds_toArray, List.set_cons_zero, List.set_cons_succ]
      refine nextH (i := 7) (by kernel_rfl) rfl (fun K hK => ?_)
      refine step_copy_splice (by rfl) _ _ _ _ (by rfl) 3 Try.underlying47 hsz (some ⟨g, k, none⟩) (some ⟨g, 0, none⟩) (m - k) (m - k) k m (by first | rfl | simp [Act.eval]) (by first | rfl | simp [Act.eval]) g k Z 3 HFd X (by rw [hXl]; exact hj.out) (fun _ => ⟨rfl, _, rfl, fun i u hu => ?_⟩) (by omega) (by rw [hX]; intro u hu; rw [List.eq_of_mem_replicate hu]; rfl) g w hbr.drew (Nat.le_refl _) ?_
      · rw [hX, List.getElem?_replicate] at hu
        by_cases hij : i < j
        · rw [if_pos hij] at hu
          rw [← hu, ← hZa i (by omega)]
          rw [show (⟨g, 0, none⟩ : Addr).add i = ⟨g, i, none⟩ by unfold Addr.add; split <;> simp_all]
          simp [World.cell?, HFd]
        · rw [if_neg hij] at hu; cases hu
      intro w5 HG5 hB5
      rw [hXl]
      simp only [Act.put, List.getElem_toArray, List.getElem_cons_zero, List.getElem_cons_succ, List.setIfInBounds_toArray, List.set_cons_zero, List.set_cons_succ]
      refine hK _ _ ⟨hB5, trivial⟩ ?_
      clear hK K hSd
      have hSd : Below g w w5 ∧ True := ⟨hB5, trivial⟩
      have hgo : goInt j = .int .i64 (j : Int) := rfl
      have p2 : IntKind.i64.wrap ((k : Int) + (j : Int)) = (k : Int) + (j : Int) := by simp (disch := omega) only [IntWalk.i64_in]
      refine nextH (i := 8) (by kernel_rfl) rfl (fun K hK => ?_)
      go_simp
      refine hK _ _ hSd ?_
      clear hK K
      refine nextH (i := 9) (by kernel_rfl) rfl (fun K hK => ?_)
      go_simp
      refine hK _ _ hSd ?_
      clear hK K
      refine wpAnyH_done (by kernel_rfl) ?_ _
      have HF5 : Hid (w5.heap[g]? = some (.cells (fillV m v (k + j)).toArray 3 (0, 0))) := by show _ = _; rw [HG5.out, hsp.out]
      go_wp2
      go_roundw
      case rel => exact ⟨k + j, by omega, hjm, by go_num, hB5, HF5⟩
      case measure => simp [intOf]; omega
    · obtain rfl : k = m := by omega
      have hrd : Rd wr (some ⟨g, 0, none⟩) (ints (List.replicate k v)) := fun _ => by
        have hz : g < wr.heap.size := (Array.getElem?_eq_some_iff.1 HF.out).1
        refine ⟨g, 0, rfl, hz, fun i u hu => ?_⟩
        have e : fillV k v k = ints (List.replicate k v) := by simp [fillV, ints]
        rw [Nat.zero_add, ← hu, ← e]
        simp [World.cell?, HF.out]
      go_wp2
      go_ret
      exact ⟨⟨_, _, rfl, hrd⟩, by first | exact hbr | (rw [hg]; exact hbr)⟩
end Go.Proofs.Ytmdmkmfemhkfgaa
