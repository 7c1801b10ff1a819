/- Contracts: the blocks of a frame as an iterator. -/
import Derived.Test.YtmedjedmeggbpaaDoorW21
import Derived.Test.YtmedjedmeggbpaaDoorW18
namespace Go.Proofs.YtmedjedmeggbpaaDoor
open Go.RowKit
set_option maxRecDepth 100000

theorem blocks_c (gain limit : Int) (A G U : Option Addr) (n cA m c nU cU : Nat) (w : World) :
    Calls Tryd.prog 130 #[.agg #[.int .i64 gain, .int .i64 limit, .slice A n cA, .slice G m c, .slice U nU cU]] w fun r w' =>
      r = .returned (.func (.func 148) #[] #[.pointer (some ⟨w.heap.size, 0, none⟩)]) ∧ Blk w' w.heap.size 158 [.int .i64 gain, .int .i64 limit, .slice A n cA, .slice G m c, .slice U nU cU] ∧ Below w.heap.size w w' := by
  go_enter Tryd.func130, Tryd.ntmps130
  go_wp2
  go_ret
  exact ⟨rfl, Blk.new w _ [_, _, _, _, _], (Below.refl _ _).alloc (Nat.le_refl _) _⟩
end Go.Proofs.YtmedjedmeggbpaaDoor
