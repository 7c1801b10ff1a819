/- The examples of chapter 1 that each statement checks first: what the calls return. No condition but the laid table. -/
import Derived.Test.YtmedjedmeggbpaaDoorPow2
import Derived.Test.YtmedjedmeggbpaaDoorW6
import Derived.Test.YtmedjedmeggbpaaDoorW17
import Derived.Test.YtmedjedmeggbpaaDoorW19
import Derived.Test.YtmedjedmeggbpaaDoorW20
namespace Go.Proofs.YtmedjedmeggbpaaDoor
open Go.RowKit
set_option maxRecDepth 100000

theorem aw_partners (A : Option Addr) (c : Nat) (w : World) (hr : Rd w A (ints [1, 1])) :
    Calls Tryd.prog 29 #[.slice A 2 c] w fun r w' => (∃ A' c' vs, r = .returned (.tuple #[.slice A' 2 c', .int .i64 0]) ∧ vs.length = 2 ∧ Rd w' A' vs ∧ Lists w' vs [[-1, 1], [1, -1]]) ∧ Below w.heap.size w w' := by
  refine (partners_c [1, 1] A c w hr (by decide)).mono ?_
  rintro r w' ⟨h, hb⟩
  refine ⟨?_, hb⟩
  have e0 : partE [1, 1] = 0 := by decide
  have e1 : partL [1, 1] (List.range (2 ^ ([1, 1] : List Int).length)) = [[-1, 1], [1, -1]] := by decide
  rcases h with ⟨h, _⟩ | ⟨_, A', c', vs, rfl, h1, h2⟩
  · exact absurd e0 h
  · rw [e1] at h2
    have hl : vs.length = 2 := h2.length
    rw [hl]
    exact ⟨A', c', vs, rfl, hl, h1, h2⟩

theorem aw_wave (w : World) (hT : Tab w) :
    Calls Tryd.prog 46 #[.agg #[.int .i64 5000, .int .i64 3, .int .i64 4], .int .i64 6] w fun r w' => (∃ A c, r = .returned (.tuple #[.slice A 6 c, .int .i64 0]) ∧ Rd w' A (gs [(1, 0), (1, 0), (1, 0), (0, 1), (0, -1), (-1, 0)])) ∧ Below w.heap.size w w' := by
  refine (chirpWave_c 5000 3 4 6 w hT).mono ?_
  rintro r w' ⟨h, hb⟩
  refine ⟨?_, hb⟩
  have e0 : chirpNE 5000 3 4 6 1 32 = 0 := by decide
  have e1 : waveL 5000 3 4 (6 : Int).toNat = [(1, 0), (1, 0), (1, 0), (0, 1), (0, -1), (-1, 0)] := by decide
  rcases h with ⟨h, _⟩ | ⟨_, A', c', rfl, h1⟩
  · exact absurd e0 h
  · rw [e1] at h1 ⊢
    exact ⟨A', c', rfl, h1.1⟩

theorem aw_line (A G B : Option Addr) (cA c cB : Nat) (w : World) (hT : Tab w) (hs : Rd w A (gs [(0, 0), (0, 5), (0, 5), (0, 0)])) (hr : Rd w G (ints [2])) (hv : Rd w B (gs [(1, 0), (1, 0)])) :
    Calls Tryd.prog 60 #[.agg #[.int .i64 0, .int .i64 9, .slice A 4 cA, .slice G 1 c], .slice B 2 cB] w fun r w' =>
      (∃ V M : Option Addr, r = .returned (.tuple #[.agg #[.slice V 3 3, .slice M 3 3], .int .i64 0]) ∧ Rd w' M (ints [0, 1, 1])) ∧ Below w.heap.size w w' := by
  refine (compressed_ok 0 9 A G B cA c cB [(0, 0), (0, 5), (0, 5), (0, 0)] [(1, 0), (1, 0)] [2] w hT hs hr hv (by decide) (by decide) (by decide) (by decide)).mono ?_
  rintro r w' ⟨⟨V, M, rfl, h1, h2⟩, hb⟩
  have e1 : compMs (usableL 9 [(0, 0), (0, 5), (0, 5), (0, 0)] [2]) [(1, 0), (1, 0)] (4 - 2 + 1) = [0, 1, 1] := by decide
  exact ⟨⟨V, M, rfl, by rw [← e1]; exact h2⟩, hb⟩

def awFr (A : Option Addr) : Fr := ⟨0, 9, A, 4, [(3, 0), (0, 0), (1, 0), (0, 0)], none, 0, []⟩
theorem aw_pow (A : Option Addr) : framesE [awFr A] = 0 ∧ powSum [awFr A] 0 = 16 ∧ powSum [awFr A] 1 = 4 ∧ powSum [awFr A] 2 = 16 ∧ powSum [awFr A] 3 = 4 := by
  have h0 : (frameE 0 9 [(3, 0), (0, 0), (1, 0), (0, 0)] []).2 = 0 := by decide
  have h1 : ∀ n, n < 4 → pwSum [(3, 0), (0, 0), (1, 0), (0, 0)] (blockNs (usableL 9 [(3, 0), (0, 0), (1, 0), (0, 0)] []) 1) n = [16, 4, 16, 4].getD n 0 := by decide
  refine ⟨?_, ?_, ?_, ?_, ?_⟩
  · simp only [framesE, awFr, List.map, List.length_cons, List.length_nil, Fr.err, h0]; decide
  · simp only [powSum, awFr, List.map, Fr.pows, List.sum_cons, List.sum_nil]; exact h1 0 (by decide)
  · simp only [powSum, awFr, List.map, Fr.pows, List.sum_cons, List.sum_nil]; exact h1 1 (by decide)
  · simp only [powSum, awFr, List.map, Fr.pows, List.sum_cons, List.sum_nil]; exact h1 2 (by decide)
  · simp only [powSum, awFr, List.map, Fr.pows, List.sum_cons, List.sum_nil]; exact h1 3 (by decide)
end Go.Proofs.YtmedjedmeggbpaaDoor
