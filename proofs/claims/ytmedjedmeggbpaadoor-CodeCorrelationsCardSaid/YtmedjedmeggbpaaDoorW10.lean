/- Contracts: whole complex numbers. -/
import Derived.Test.YtmedjedmeggbpaaDoorW8
import Derived.Test.YtmedjedmeggbpaaDoorW7
import Derived.Test.YtmedjedmeggbpaaDoorFlo
import Derived.Laws.ComplexArith
import Derived.Handy
import Derived.Deep.DeepCutAuto
namespace Go.Proofs.YtmedjedmeggbpaaDoor
open Go.RowKit
set_option maxRecDepth 100000

/-- A complex value that is a whole complex number. -/
def CI (v : Value) (g : Int × Int) : Prop := ∃ x y, v = .complex .f64 x y ∧ FI x g.1 ∧ FI y g.2

theorem number_c (a b : Int) (w : World) (h1 : a.natAbs < 9007199254740992) (h2 : b.natAbs < 9007199254740992) :
    Calls Tryd.prog 145 #[.agg #[.int .i64 a, .int .i64 b]] w fun r w' => (∃ v, r = .returned v ∧ CI v (a, b)) ∧ Below w.heap.size w w' := by
  go_enter Tryd.func145, Tryd.ntmps145
  go_wp2
  go_ret
  exact ⟨⟨_, rfl, _, _, rfl, FI.ofInt a h1, FI.ofInt b h2⟩, (Below.refl _ _).alloc (Nat.le_refl _) _⟩

theorem gauss_c (v : Value) (a b : Int) (hv : CI v (a, b)) (w : World) (h1 : a.natAbs < 9007199254740992) (h2 : b.natAbs < 9007199254740992) :
    Calls Tryd.prog 132 #[v] w fun r w' => r = .returned (.agg #[.int .i64 a, .int .i64 b]) ∧ Below w.heap.size w w' := by
  obtain ⟨x, y, rfl, hx, hy⟩ := hv
  have r1 : ∀ W, Sem.run Tryd.prog (Go.convert 195 3 (.float .f64 x)) W = .ok (.int .i64 a) W := fun W => run_convert_float_int W _ _ _ _ _ _ (by kernel_rfl) (by kernel_rfl) (hx.toInt h1)
  have r2 : ∀ W, Sem.run Tryd.prog (Go.convert 195 3 (.float .f64 y)) W = .ok (.int .i64 b) W := fun W => run_convert_float_int W _ _ _ _ _ _ (by kernel_rfl) (by kernel_rfl) (hy.toInt h2)
  go_enter Tryd.func132, Tryd.ntmps132
  go_wp2
  try simp only [Exit.inBlock, Exit.then]
  refine bodyPost_ret (by simp [results, Tryd.results132, go_sem]; try rfl) rfl ?_
  exact ⟨rfl, (Below.refl _ _).alloc (Nat.le_refl _) _⟩

theorem conjugate_c (v : Value) (a b : Int) (hv : CI v (a, b)) (w : World) :
    Calls Tryd.prog 144 #[v] w fun r w' => (∃ v', r = .returned v' ∧ CI v' (a, -b)) ∧ w = w' := by
  obtain ⟨x, y, rfl, hx, hy⟩ := hv
  have r1 : ∀ W, Sem.run Tryd.prog (Op.unary .neg (.float .f64 y)) W = .ok (.float .f64 (Op.negFloat .f64 y)) W := fun W => by simp [Op.unary, go_sem]
  go_enter Tryd.func144, Tryd.ntmps144
  go_wp2
  go_ret
  exact ⟨⟨_, rfl, _, _, rfl, hx, hy.neg⟩, rfl⟩

theorem squareOf_c (a b : Int) (w : World) (h1 : 0 ≤ a * a) (h2 : 0 ≤ b * b) (h : a * a + b * b ≤ 9223372036854775807) :
    Calls Tryd.prog 131 #[.agg #[.int .i64 a, .int .i64 b]] w fun r w' => r = .returned (.int .i64 (a * a + b * b)) ∧ Below w.heap.size w w' := by
  go_enter Tryd.func131, Tryd.ntmps131
  go_wp2
  go_ret
  refine ⟨?_, (Below.refl _ _).alloc (Nat.le_refl _) _⟩
  rfl

theorem i64_and_three (n : Int) : bits .and .i64 n 3 = n % 4 := by
  show IntKind.i64.wrap ((BitVec.ofInt 64 n &&& BitVec.ofInt 64 3).toNat : Int) = _
  rw [BitVec.toNat_and, BitVec.toNat_ofInt, show (BitVec.ofInt 64 3).toNat = 2 ^ 2 - 1 from rfl, Nat.and_two_pow_sub_one_eq_mod, IntKind.wrap_i64]
  omega
theorem turnG_small (k : Nat) (hk : k < 4) : -1 ≤ (turnG k).1 ∧ (turnG k).1 ≤ 1 ∧ -1 ≤ (turnG k).2 ∧ (turnG k).2 ≤ 1 := by
  have e : k = 0 ∨ k = 1 ∨ k = 2 ∨ k = 3 := by omega
  rcases e with rfl | rfl | rfl | rfl <;> decide

theorem powerOfI_c (n : Int) (w : World) (hT : Tab w) (_h1 : -9007199254740992 ≤ n) (_h2 : n ≤ 9007199254740992) :
    Calls Tryd.prog 150 #[.int .i64 n] w fun r w' => (∃ v, r = .returned v ∧ CI v (turnG (n % 4).toNat)) ∧ Below w.heap.size w w' := by
  have hb : bits .and .i64 n 3 = ((n % 4).toNat : Int) := by rw [i64_and_three]; omega
  have hk : (n % 4).toNat < 4 := by omega
  obtain ⟨t1, t2⟩ := hT.at_ _ hk
  have hs1 := turnG_small (n % 4).toNat hk
  generalize (n % 4).toNat = k at hb hk t1 t2 hs1
  go_enter Tryd.func150, Tryd.ntmps150
  go_wp2
  go_ret
  exact ⟨⟨_, rfl, _, _, rfl, FI.ofInt _ (by omega), FI.ofInt _ (by omega)⟩, (Below.refl _ _).alloc (Nat.le_refl _) _⟩

/-- Whether a number is a power of i. -/
def isPow (g : Int × Int) : Bool := g == (1, 0) || g == (0, 1) || g == (-1, 0) || g == (0, -1)

theorem isPowerOfI_c (a b : Int) (w : World) (hT : Tab w) :
    Calls Tryd.prog 143 #[.agg #[.int .i64 a, .int .i64 b]] w fun r w' => r = .returned (.bool (isPow (a, b))) ∧ Below w.heap.size w w' := by
  go_enter Tryd.func143, Tryd.ntmps143
  go_upto_region 1 with fail
  generalize hW : w.alloc (.cells #[.int .i64 a, .int .i64 b] 76) = W
  have hB : Below w.heap.size w W := by rw [← hW]; exact (Below.refl _ _).alloc (Nat.le_refl _) _
  have hX : Blk W w.heap.size 76 [.int .i64 a, .int .i64 b] := by rw [← hW]; exact Blk.new w 76 [.int .i64 a, .int .i64 b]
  have hTW := hT.bel hB
  clear hW
  have t0 := hTW.2 0 (by omega)
  have t1 := hTW.2 1 (by omega)
  have t2 := hTW.2 2 (by omega)
  have t3 := hTW.2 3 (by omega)
  have t4 := hTW.2 4 (by omega)
  have t5 := hTW.2 5 (by omega)
  have t6 := hTW.2 6 (by omega)
  have t7 := hTW.2 7 (by omega)
  simp only [tabL, List.getElem_cons_zero, List.getElem_cons_succ] at t0 t1 t2 t3 t4 t5 t6 t7
  have c0 := hX.cell 0
  have c1 := hX.cell 1
  simp only [List.getElem?_cons_zero, List.getElem?_cons_succ] at c0 c1
  have hlt := hX.lt
  go_wp2
  go_loopw [6] (fun i wr => ∃ k : Nat, k ≤ 4 ∧ i = .int .i64 k ∧ Below W.heap.size W wr ∧ Hid (∀ j, j < k → turnG j ≠ (a, b))) (fun i _ => 4 - (intOf i).toNat)
  case atStart => exact ⟨0, by omega, rfl, Below.refl _ _, fun j h => absurd h (by omega)⟩
  case round =>
    obtain ⟨k, hk, rfl, hbr, hno⟩ := hrel
    have b0 := (hbr.cell (p := ⟨w.heap.size, 0, none⟩) hlt).trans c0
    have b1 := (hbr.cell (p := ⟨w.heap.size, 1, none⟩) hlt).trans c1
    have hltr : w.heap.size < wr.heap.size := Nat.lt_of_lt_of_le hlt hbr.size
    clear t0 t1 t2 t3 t4 t5 t6 t7 c0 c1
    by_cases hlt4 : k < 4
    · have hix : ∀ W, Sem.run Tryd.prog (Instr.index 151 (.agg #[.int .i64 1, .int .i64 0, .int .i64 0, .int .i64 1, .int .i64 (-1), .int .i64 0, .int .i64 0, .int .i64 (-1)]) (.int .i64 (k : Int))) W = .ok (.agg #[.int .i64 (turnG k).1, .int .i64 (turnG k).2]) W := fun W => by
        have e : k = 0 ∨ k = 1 ∨ k = 2 ∨ k = 3 := by omega
        rcases e with rfl | rfl | rfl | rfl <;> (simp [Instr.index, go_sem]; try decide)
      obtain ⟨⟨g1, g2⟩, hg⟩ : ∃ g : Int × Int, turnG k = g := ⟨_, rfl⟩
      simp only [hg] at hix
      have hsz := hbr.size
      by_cases h1 : g1 = a
      · subst h1
        by_cases h2 : g2 = b
        · subst h2
          go_wp2
          go_ret
          refine ⟨ret_bool (Eq.symm ?_), (tr hB hbr (Nat.le_of_lt hlt)).alloc (by omega) _⟩
          have e : k = 0 ∨ k = 1 ∨ k = 2 ∨ k = 3 := by omega
          rw [← hg]
          rcases e with rfl | rfl | rfl | rfl <;> decide
        · have h2' : ¬ b = g2 := fun e => h2 e.symm
          go_wp2
          go_roundw
          case rel =>
            refine ⟨k + 1, by omega, by go_num, hbr.alloc hsz _, fun j hj => ?_⟩
            rcases Nat.lt_succ_iff_lt_or_eq.1 hj with h | rfl
            · exact hno.out j h
            · rw [hg]; intro e; injection e with e1 e2; exact h2 e2
          case measure => simp [intOf]; omega
      · have h1' : ¬ a = g1 := fun e => h1 e.symm
        go_wp2
        go_roundw
        case rel =>
          refine ⟨k + 1, by omega, by go_num, hbr.alloc hsz _, fun j hj => ?_⟩
          rcases Nat.lt_succ_iff_lt_or_eq.1 hj with h | rfl
          · exact hno.out j h
          · rw [hg]; intro e; injection e with e1 e2; exact h1 e1
        case measure => simp [intOf]; omega
    · obtain rfl : k = 4 := by omega
      go_wp2
      go_ret
      refine ⟨?_, tr hB hbr (Nat.le_of_lt hlt)⟩
      have h0 := hno.out 0 (by omega)
      have h1 := hno.out 1 (by omega)
      have h2 := hno.out 2 (by omega)
      have h3 := hno.out 3 (by omega)
      refine ret_bool (Eq.symm ?_)
      simp only [isPow, Bool.or_eq_false_iff, beq_eq_false_iff_ne]
      exact ⟨⟨⟨Ne.symm h0, Ne.symm h1⟩, Ne.symm h2⟩, Ne.symm h3⟩
end Go.Proofs.YtmedjedmeggbpaaDoor
