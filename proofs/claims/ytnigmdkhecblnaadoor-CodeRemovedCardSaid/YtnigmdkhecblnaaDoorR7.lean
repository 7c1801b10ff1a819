/- Contracts: sums, products, conjugates and sizes of whole complex numbers, as the reference has them. -/
import Derived.Test.YtnigmdkhecblnaaDoorMF
import Derived.Test.YtnigmdkhecblnaaDoorMC
set_option linter.unusedSimpArgs false
set_option linter.unusedVariables false
namespace Go.Proofs.YtnigmdkhecblnaaDoor
open Go.RowKit
set_option maxRecDepth 100000

/-- A number whose parts are at most 2^30 in size. -/
def Mid (g : Int × Int) : Prop := -1073741824 ≤ g.1 ∧ g.1 ≤ 1073741824 ∧ -1073741824 ≤ g.2 ∧ g.2 ≤ 1073741824

theorem mul_mid {x y : Int} (h1 : -1073741824 ≤ x) (h2 : x ≤ 1073741824) (h3 : -1073741824 ≤ y) (h4 : y ≤ 1073741824) : -1152921504606846976 ≤ x * y ∧ x * y ≤ 1152921504606846976 := by
  have a : x.natAbs ≤ 1073741824 := by omega
  have b : y.natAbs ≤ 1073741824 := by omega
  have c := Nat.mul_le_mul a b
  rw [← Int.natAbs_mul] at c
  omega

theorem gmul_c (a b : Int × Int) (w : World) (ha : Mid a) (hb : Mid b) :
    Calls Tryd.prog 26 #[.agg #[.int .i64 a.1, .int .i64 a.2], .agg #[.int .i64 b.1, .int .i64 b.2]] w fun r w' => r = .returned (.agg #[.int .i64 (gmul a b).1, .int .i64 (gmul a b).2]) ∧ Below w.heap.size w w' := by
  obtain ⟨x, y⟩ := a
  obtain ⟨u, v⟩ := b
  obtain ⟨a1, a2, a3, a4⟩ := ha
  obtain ⟨b1, b2, b3, b4⟩ := hb
  dsimp only at *
  obtain ⟨p1, p2⟩ := mul_mid a1 a2 b1 b2
  obtain ⟨p3, p4⟩ := mul_mid a3 a4 b3 b4
  obtain ⟨p5, p6⟩ := mul_mid a1 a2 b3 b4
  obtain ⟨p7, p8⟩ := mul_mid a3 a4 b1 b2
  go_enter Tryd.func26, Tryd.ntmps26
  go_wp2
  refine bodyPost_ret (by simp [results, Tryd.results26, go_sem]; try rfl) rfl ?_
  exact ⟨rfl, ((alloc_bel _ _).alloc (by simp) _).alloc (by simp; omega) _⟩

theorem gadd_c (a b : Int × Int) (w : World) (ha : -4611686018427387904 ≤ a.1 ∧ a.1 ≤ 4611686018427387903 ∧ -4611686018427387904 ≤ a.2 ∧ a.2 ≤ 4611686018427387903) (hb : -4611686018427387904 ≤ b.1 ∧ b.1 ≤ 4611686018427387903 ∧ -4611686018427387904 ≤ b.2 ∧ b.2 ≤ 4611686018427387903) :
    Calls Tryd.prog 25 #[.agg #[.int .i64 a.1, .int .i64 a.2], .agg #[.int .i64 b.1, .int .i64 b.2]] w fun r w' => r = .returned (.agg #[.int .i64 (gadd a b).1, .int .i64 (gadd a b).2]) ∧ Below w.heap.size w w' := by
  obtain ⟨x, y⟩ := a
  obtain ⟨u, v⟩ := b
  obtain ⟨a1, a2, a3, a4⟩ := ha
  obtain ⟨b1, b2, b3, b4⟩ := hb
  dsimp only at *
  go_enter Tryd.func25, Tryd.ntmps25
  go_wp2
  refine bodyPost_ret (by simp [results, Tryd.results25, go_sem]; try rfl) rfl ?_
  exact ⟨rfl, ((alloc_bel _ _).alloc (by simp) _).alloc (by simp; omega) _⟩

theorem gnorm_c (a : Int × Int) (w : World) (ha : Mid a) :
    Calls Tryd.prog 18 #[.agg #[.int .i64 a.1, .int .i64 a.2]] w fun r w' => r = .returned (.int .i64 (a.1 * a.1 + a.2 * a.2)) ∧ Below w.heap.size w w' := by
  obtain ⟨x, y⟩ := a
  obtain ⟨a1, a2, a3, a4⟩ := ha
  dsimp only at *
  obtain ⟨p1, p2⟩ := mul_mid a1 a2 a1 a2
  obtain ⟨p3, p4⟩ := mul_mid a3 a4 a3 a4
  go_enter Tryd.func18, Tryd.ntmps18
  go_wp2
  go_ret
  exact ⟨rfl, alloc_bel _ _⟩
end Go.Proofs.YtnigmdkhecblnaaDoor
