/- Contracts: squares around a number (the program's and the reference's). -/
import Derived.Test.YthkmeaibppkhmaaDoorMathC
namespace Go.Proofs.YthkmeaibppkhmaaDoor
open Go.RowKit
set_option maxRecDepth 100000

theorem wsq {x m : Int} (h1 : -m ≤ x) (h2 : x ≤ m) (hm : m ≤ 3000000000) : Hid (wrap64 (x * x) = x * x) := by
  show _ = _
  have h3 := sqv_bd h1 h2
  have h4 := sq_le (x := m) (m := 3000000000) (by omega) hm
  exact wrap64_id (by omega) (by omega)

theorem squaresAround_c (n d : Int) (w : World) (h1 : -1000000000 ≤ n) (h2 : n ≤ 1000000000) (h3 : 0 ≤ d) (h4 : d ≤ 128000000) :
    Calls Tryd.prog 147 #[.int .i64 n, .int .i64 d] w fun r w' => r = .returned (.agg #[.int .i64 (loS n d), .int .i64 (hiS n d)]) ∧ Below w.heap.size w w' := by
  by_cases c1 : n < -n
  · have e1 : szI n = -n := if_pos c1
    have q2 := wsq (x := -n + d) (m := 1128000000) (by omega) (by omega) (by omega)
    have eh : hiS n d = (-n + d) * (-n + d) := by unfold hiS; rw [e1]
    by_cases c2 : -n - d < 0
    · have el : loS n d = 0 := by unfold loS leI; rw [e1, if_pos c2]; rfl
      rw [el, eh]
      clear e1 el eh
      go_enter Tryd.func147, Tryd.ntmps147
      go_wp2
      refine bodyPost_ret (by simp [results, Tryd.results147, go_sem]; try rfl) rfl ?_
      exact ⟨by simp [q2.out], alloc_bel _ _⟩
    · have el : loS n d = (-n - d) * (-n - d) := by unfold loS leI; rw [e1, if_neg c2]
      have q1 := wsq (x := -n - d) (m := 1128000000) (by omega) (by omega) (by omega)
      rw [el, eh]
      clear e1 el eh
      go_enter Tryd.func147, Tryd.ntmps147
      go_wp2
      refine bodyPost_ret (by simp [results, Tryd.results147, go_sem]; try rfl) rfl ?_
      exact ⟨by simp [q1.out, q2.out], alloc_bel _ _⟩
  · have e1 : szI n = n := if_neg c1
    have q2 := wsq (x := n + d) (m := 1128000000) (by omega) (by omega) (by omega)
    have eh : hiS n d = (n + d) * (n + d) := by unfold hiS; rw [e1]
    by_cases c2 : n - d < 0
    · have el : loS n d = 0 := by unfold loS leI; rw [e1, if_pos c2]; rfl
      rw [el, eh]
      clear e1 el eh
      go_enter Tryd.func147, Tryd.ntmps147
      go_wp2
      refine bodyPost_ret (by simp [results, Tryd.results147, go_sem]; try rfl) rfl ?_
      exact ⟨by simp [q2.out], alloc_bel _ _⟩
    · have el : loS n d = (n - d) * (n - d) := by unfold loS leI; rw [e1, if_neg c2]
      have q1 := wsq (x := n - d) (m := 1128000000) (by omega) (by omega) (by omega)
      rw [el, eh]
      clear e1 el eh
      go_enter Tryd.func147, Tryd.ntmps147
      go_wp2
      refine bodyPost_ret (by simp [results, Tryd.results147, go_sem]; try rfl) rfl ?_
      exact ⟨by simp [q1.out, q2.out], alloc_bel _ _⟩

theorem squares_c (lo hi : Int) (w : World) (h1 : -1128000000 ≤ lo) (h2 : hi ≤ 1128000000) (h3 : lo ≤ hi) :
    Calls Tryd.prog 127 #[.int .i64 lo, .int .i64 hi] w fun r w' => r = .returned (.agg #[.int .i64 (loR lo hi), .int .i64 (hiR lo hi)]) ∧ Below w.heap.size w w' := by
  have q1 := wsq (x := lo) (m := 1128000000) (by omega) (by omega) (by omega)
  have q2 := wsq (x := hi) (m := 1128000000) (by omega) (by omega) (by omega)
  have hh : Hid (hiR lo hi = if lo * lo < hi * hi then hi * hi else lo * lo) := rfl
  by_cases c1 : lo ≤ 0
  · by_cases c2 : 0 ≤ hi
    · have hl : Hid (loR lo hi = 0) := if_pos ⟨c1, c2⟩
      go_enter Tryd.func127, Tryd.ntmps127
      go_wp2
      all_goals
        refine bodyPost_ret (by simp [results, Tryd.results127, go_sem]; try rfl) rfl ?_
        refine ⟨?_, (alloc_bel _ _).alloc (by simp) _⟩
        simp only [q1.out, q2.out] at *
        rw [hl.out, hh.out]
        first
          | (rw [if_pos (by omega), if_pos (by omega)]; done)
          | (rw [if_pos (by omega), if_neg (by omega)]; done)
          | (rw [if_neg (by omega), if_pos (by omega)]; done)
          | (rw [if_neg (by omega), if_neg (by omega)]; done)
          | (rw [if_pos (by omega)]; done)
          | (rw [if_neg (by omega)]; done)
    · have hl : Hid (loR lo hi = if hi * hi < lo * lo then hi * hi else lo * lo) := if_neg (by omega)
      go_enter Tryd.func127, Tryd.ntmps127
      go_wp2
      all_goals
        refine bodyPost_ret (by simp [results, Tryd.results127, go_sem]; try rfl) rfl ?_
        refine ⟨?_, (alloc_bel _ _).alloc (by simp) _⟩
        simp only [q1.out, q2.out] at *
        rw [hl.out, hh.out]
        first
          | (rw [if_pos (by omega), if_pos (by omega)]; done)
          | (rw [if_pos (by omega), if_neg (by omega)]; done)
          | (rw [if_neg (by omega), if_pos (by omega)]; done)
          | (rw [if_neg (by omega), if_neg (by omega)]; done)
          | (rw [if_pos (by omega)]; done)
          | (rw [if_neg (by omega)]; done)
  · have hl : Hid (loR lo hi = if hi * hi < lo * lo then hi * hi else lo * lo) := if_neg (by omega)
    go_enter Tryd.func127, Tryd.ntmps127
    go_wp2
    all_goals
      refine bodyPost_ret (by simp [results, Tryd.results127, go_sem]; try rfl) rfl ?_
      refine ⟨?_, (alloc_bel _ _).alloc (by simp) _⟩
      simp only [q1.out, q2.out] at *
      rw [hl.out, hh.out]
      first
        | (rw [if_pos (by omega), if_pos (by omega)]; done)
        | (rw [if_pos (by omega), if_neg (by omega)]; done)
        | (rw [if_neg (by omega), if_pos (by omega)]; done)
        | (rw [if_neg (by omega), if_neg (by omega)]; done)
        | (rw [if_pos (by omega)]; done)
        | (rw [if_neg (by omega)]; done)
end Go.Proofs.YthkmeaibppkhmaaDoor
