/- Two arrays of four numbers compared. No condition. -/
import Derived.Test.YtnigmdkhecblnaaDoorP15
import Derived.Laws.StructEq
set_option linter.unusedSimpArgs false
set_option linter.unusedVariables false
namespace Go.Proofs.YtnigmdkhecblnaaDoor
open Go.RowKit
set_option maxRecDepth 100000

theorem eql4_d (n : Nat) (a b c d x y z u : Int) (w : World) : (Op.equalIn (n + 2) 38 (.agg #[.int .i64 a, .int .i64 b, .int .i64 c, .int .i64 d]) (.agg #[.int .i64 x, .int .i64 y, .int .i64 z, .int .i64 u])).run Tryd.prog w = .ok (a == x && (b == y && (c == z && d == u))) w := by
  have h := Tryd.underlying38
  obtain ⟨i0, hi, hz0, hz1, hz2⟩ := info_parts Tryd.info3
  have hso : (sizeOf 3).run Tryd.prog w = .ok 1 w := by simp [sizeOf, typeInfo, hi, hz1]
  have hp : ∀ (xs : Array Value) (k : Nat) (v : Int), xs[k]? = some (.int .i64 v) → (part 3 xs (k * 1)).run Tryd.prog w = .ok (.int .i64 v) w := fun xs k v hx => by
    have ha : (isAgg 3).run Tryd.prog w = .ok false w := by simp [isAgg, run_underlying Tryd.underlying3]
    simp only [part, Sem.run_bind, ha, Result.andThen_ok, Bool.false_eq_true, if_false, Nat.mul_one, hx, Sem.run_pure]
  have he : ∀ p q : Int, (Op.equalIn (n + 1) 3 (.int .i64 p) (.int .i64 q)).run Tryd.prog w = .ok (p == q) w := fun p q => run_equalIn_int w n 3 .i64 .i64 p q Tryd.underlying3
  rw [Op.equalIn]
  simp only [Sem.run_bind, run_underlying h, Result.andThen_ok, hso]
  have pA0 := hp #[.int .i64 a, .int .i64 b, .int .i64 c, .int .i64 d] (0) a rfl
  have pA1 := hp #[.int .i64 a, .int .i64 b, .int .i64 c, .int .i64 d] (0 + 1) b rfl
  have pA2 := hp #[.int .i64 a, .int .i64 b, .int .i64 c, .int .i64 d] (0 + 1 + 1) c rfl
  have pA3 := hp #[.int .i64 a, .int .i64 b, .int .i64 c, .int .i64 d] (0 + 1 + 1 + 1) d rfl
  have pX0 := hp #[.int .i64 x, .int .i64 y, .int .i64 z, .int .i64 u] (0) x rfl
  have pX1 := hp #[.int .i64 x, .int .i64 y, .int .i64 z, .int .i64 u] (0 + 1) y rfl
  have pX2 := hp #[.int .i64 x, .int .i64 y, .int .i64 z, .int .i64 u] (0 + 1 + 1) z rfl
  have pX3 := hp #[.int .i64 x, .int .i64 y, .int .i64 z, .int .i64 u] (0 + 1 + 1 + 1) u rfl
  simp only [Std.Legacy.Range.forIn_eq_forIn_range', Std.Legacy.Range.size, Nat.sub_zero, Nat.add_sub_cancel, Nat.div_one, List.range', List.forIn_cons, List.forIn_nil, Sem.run_bind, Result.andThen_ok, he, pA0, pX0]
  cases h1 : (a == x)
  · simp [Result.andThen]
  · cases h2 : (b == y)
    · simp only [Bool.not_true, Bool.false_eq_true, if_false, Sem.run_pure, Result.andThen_ok, Sem.run_bind, he, h2, pA1, pX1]
      simp [Result.andThen]
    · cases h3 : (c == z)
      · simp only [Bool.not_true, Bool.false_eq_true, if_false, Sem.run_pure, Result.andThen_ok, Sem.run_bind, he, h2, h3, pA1, pX1, pA2, pX2]
        simp [Result.andThen]
      · cases h4 : (d == u)
        · simp only [Bool.not_true, Bool.false_eq_true, if_false, Sem.run_pure, Result.andThen_ok, Sem.run_bind, he, h2, h3, h4, pA1, pX1, pA2, pX2, pA3, pX3]
          simp [Result.andThen]
        · simp only [Bool.not_true, Bool.false_eq_true, if_false, Sem.run_pure, Result.andThen_ok, Sem.run_bind, he, h2, h3, h4, pA1, pX1, pA2, pX2, pA3, pX3]
          simp

theorem run_eq4 (a b c d x y z u : Int) (w : World) : (binOp .eql 38 (.agg #[.int .i64 a, .int .i64 b, .int .i64 c, .int .i64 d]) (.agg #[.int .i64 x, .int .i64 y, .int .i64 z, .int .i64 u])).run Tryd.prog w = .ok (.bool (a == x && (b == y && (c == z && d == u)))) w := by
  rw [run_eql_struct, eql4_d 9998]
  rfl
theorem run_ne4 (a b c d x y z u : Int) (w : World) : (binOp .neq 38 (.agg #[.int .i64 a, .int .i64 b, .int .i64 c, .int .i64 d]) (.agg #[.int .i64 x, .int .i64 y, .int .i64 z, .int .i64 u])).run Tryd.prog w = .ok (.bool (!(a == x && (b == y && (c == z && d == u))))) w := by
  rw [run_neq_struct, eql4_d 9998]
  rfl
end Go.Proofs.YtnigmdkhecblnaaDoor
