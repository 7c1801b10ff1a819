/- A group of texts (tools/groups.txt): W10 W11 W12 W13 W14 W15. No condition but those that each says. -/
import Derived.Test.YtnigmdkhecblnaaDoorMC
import Derived.Test.YtnigmdkhecblnaaDoorMA
import Derived.Laws.ComplexArith
import Derived.Handy
import Derived.Deep.DeepCutAuto
set_option linter.unusedSimpArgs false
set_option linter.unusedVariables false
/- Contracts: whole complex numbers. -/
namespace Go.Proofs.YtnigmdkhecblnaaDoor
open Go.RowKit
set_option maxRecDepth 100000

/-- A complex value that is a whole complex number. -/
def CI (v : Value) (g : Int × Int) : Prop := ∃ x y, v = .complex .f64 x y ∧ FI x g.1 ∧ FI y g.2

theorem number_c (a b : Int) (w : World) (h1 : a.natAbs < 9007199254740992) (h2 : b.natAbs < 9007199254740992) :
    Calls Tryd.prog 83 #[.agg #[.int .i64 a, .int .i64 b]] w fun r w' => (∃ v, r = .returned v ∧ CI v (a, b)) ∧ Below w.heap.size w w' := by
  go_enter Tryd.func83, Tryd.ntmps83
  go_wp2
  go_ret
  exact ⟨⟨_, rfl, _, _, rfl, FI.ofInt a h1, FI.ofInt b h2⟩, (Below.refl _ _).alloc (Nat.le_refl _) _⟩

theorem gauss_c (v : Value) (a b : Int) (hv : CI v (a, b)) (w : World) (h1 : a.natAbs < 9007199254740992) (h2 : b.natAbs < 9007199254740992) :
    Calls Tryd.prog 44 #[v] w fun r w' => r = .returned (.agg #[.int .i64 a, .int .i64 b]) ∧ Below w.heap.size w w' := by
  obtain ⟨x, y, rfl, hx, hy⟩ := hv
  have r1 : ∀ W, Sem.run Tryd.prog (Go.convert 126 3 (.float .f64 x)) W = .ok (.int .i64 a) W := fun W => run_convert_float_int W _ _ _ _ _ _ (by kernel_rfl) (by kernel_rfl) (hx.toInt h1)
  have r2 : ∀ W, Sem.run Tryd.prog (Go.convert 126 3 (.float .f64 y)) W = .ok (.int .i64 b) W := fun W => run_convert_float_int W _ _ _ _ _ _ (by kernel_rfl) (by kernel_rfl) (hy.toInt h2)
  go_enter Tryd.func44, Tryd.ntmps44
  go_wp2
  try simp only [Exit.inBlock, Exit.then]
  refine bodyPost_ret (by simp [results, Tryd.results44, go_sem]; try rfl) rfl ?_
  exact ⟨rfl, (Below.refl _ _).alloc (Nat.le_refl _) _⟩

theorem conjugate_c (v : Value) (a b : Int) (hv : CI v (a, b)) (w : World) :
    Calls Tryd.prog 82 #[v] w fun r w' => (∃ v', r = .returned v' ∧ CI v' (a, -b)) ∧ w = w' := by
  obtain ⟨x, y, rfl, hx, hy⟩ := hv
  have r1 : ∀ W, Sem.run Tryd.prog (Op.unary .neg (.float .f64 y)) W = .ok (.float .f64 (Op.negFloat .f64 y)) W := fun W => by simp [Op.unary, go_sem]
  go_enter Tryd.func82, Tryd.ntmps82
  go_wp2
  go_ret
  exact ⟨⟨_, rfl, _, _, rfl, hx, hy.neg⟩, rfl⟩

theorem squareOf_c (a b : Int) (w : World) (h1 : 0 ≤ a * a) (h2 : 0 ≤ b * b) (h : a * a + b * b ≤ 9223372036854775807) :
    Calls Tryd.prog 52 #[.agg #[.int .i64 a, .int .i64 b]] w fun r w' => r = .returned (.int .i64 (a * a + b * b)) ∧ Below w.heap.size w w' := by
  go_enter Tryd.func52, Tryd.ntmps52
  go_wp2
  go_ret
  refine ⟨?_, (Below.refl _ _).alloc (Nat.le_refl _) _⟩
  rfl

theorem i64_and_three (n : Int) : bits .and .i64 n 3 = n % 4 := by
  show IntKind.i64.wrap ((BitVec.ofInt 64 n &&& BitVec.ofInt 64 3).toNat : Int) = _
  rw [BitVec.toNat_and, BitVec.toNat_ofInt, show (BitVec.ofInt 64 3).toNat = 2 ^ 2 - 1 from rfl, Nat.and_two_pow_sub_one_eq_mod, IntKind.wrap_i64]
  omega
theorem turnG_small (k : Nat) (hk : k < 4) : -1 ≤ (turnG k).1 ∧ (turnG k).1 ≤ 1 ∧ -1 ≤ (turnG k).2 ∧ (turnG k).2 ≤ 1 := by
  have e : k = 0 ∨ k = 1 ∨ k = 2 ∨ k = 3 := by omega
  rcases e with rfl | rfl | rfl | rfl <;> decide

theorem powerOfI_c (n : Int) (w : World) (hT : Tab w) (_h1 : -9007199254740992 ≤ n) (_h2 : n ≤ 9007199254740992) :
    Calls Tryd.prog 71 #[.int .i64 n] w fun r w' => (∃ v, r = .returned v ∧ CI v (turnG (n % 4).toNat)) ∧ Below w.heap.size w w' := by
  have hb : bits .and .i64 n 3 = ((n % 4).toNat : Int) := by rw [i64_and_three]; omega
  have hk : (n % 4).toNat < 4 := by omega
  obtain ⟨t1, t2⟩ := hT.at_ _ hk
  have hs1 := turnG_small (n % 4).toNat hk
  generalize (n % 4).toNat = k at hb hk t1 t2 hs1
  go_enter Tryd.func71, Tryd.ntmps71
  go_wp2
  go_ret
  exact ⟨⟨_, rfl, _, _, rfl, FI.ofInt _ (by omega), FI.ofInt _ (by omega)⟩, (Below.refl _ _).alloc (Nat.le_refl _) _⟩

/-- Whether a number is a power of i. -/
def isPow (g : Int × Int) : Bool := g == (1, 0) || g == (0, 1) || g == (-1, 0) || g == (0, -1)

theorem isPowerOfI_c (a b : Int) (w : World) (hT : Tab w) :
    Calls Tryd.prog 81 #[.agg #[.int .i64 a, .int .i64 b]] w fun r w' => r = .returned (.bool (isPow (a, b))) ∧ Below w.heap.size w w' := by
  go_enter Tryd.func81, Tryd.ntmps81
  go_upto_region 1 with fail
  generalize hW : w.alloc (.cells #[.int .i64 a, .int .i64 b] 47) = W
  have hB : Below w.heap.size w W := by rw [← hW]; exact (Below.refl _ _).alloc (Nat.le_refl _) _
  have hX : Blk W w.heap.size 47 [.int .i64 a, .int .i64 b] := by rw [← hW]; exact Blk.new w 47 [.int .i64 a, .int .i64 b]
  have hTW := hT.bel hB
  clear hW
  have t0 := hTW.2 0 (by omega)
  have t1 := hTW.2 1 (by omega)
  have t2 := hTW.2 2 (by omega)
  have t3 := hTW.2 3 (by omega)
  have t4 := hTW.2 4 (by omega)
  have t5 := hTW.2 5 (by omega)
  have t6 := hTW.2 6 (by omega)
  have t7 := hTW.2 7 (by omega)
  simp only [tabL, List.getElem_cons_zero, List.getElem_cons_succ] at t0 t1 t2 t3 t4 t5 t6 t7
  have c0 := hX.cell 0
  have c1 := hX.cell 1
  simp only [List.getElem?_cons_zero, List.getElem?_cons_succ] at c0 c1
  have hlt := hX.lt
  go_wp2
  go_loopw [6] (fun i wr => ∃ k : Nat, k ≤ 4 ∧ i = .int .i64 k ∧ Below W.heap.size W wr ∧ Hid (∀ j, j < k → turnG j ≠ (a, b))) (fun i _ => 4 - (intOf i).toNat)
  case atStart => exact ⟨0, by omega, rfl, Below.refl _ _, fun j h => absurd h (by omega)⟩
  case round =>
    obtain ⟨k, hk, rfl, hbr, hno⟩ := hrel
    have b0 := (hbr.cell (p := ⟨w.heap.size, 0, none⟩) hlt).trans c0
    have b1 := (hbr.cell (p := ⟨w.heap.size, 1, none⟩) hlt).trans c1
    have hltr : w.heap.size < wr.heap.size := Nat.lt_of_lt_of_le hlt hbr.size
    clear t0 t1 t2 t3 t4 t5 t6 t7 c0 c1
    by_cases hlt4 : k < 4
    · have hix : ∀ W, Sem.run Tryd.prog (Instr.index 111 (.agg #[.int .i64 1, .int .i64 0, .int .i64 0, .int .i64 1, .int .i64 (-1), .int .i64 0, .int .i64 0, .int .i64 (-1)]) (.int .i64 (k : Int))) W = .ok (.agg #[.int .i64 (turnG k).1, .int .i64 (turnG k).2]) W := fun W => by
        have e : k = 0 ∨ k = 1 ∨ k = 2 ∨ k = 3 := by omega
        rcases e with rfl | rfl | rfl | rfl <;> (simp [Instr.index, go_sem]; try decide)
      obtain ⟨⟨g1, g2⟩, hg⟩ : ∃ g : Int × Int, turnG k = g := ⟨_, rfl⟩
      simp only [hg] at hix
      have hsz := hbr.size
      by_cases h1 : g1 = a
      · subst h1
        by_cases h2 : g2 = b
        · subst h2
          go_wp2
          go_ret
          refine ⟨ret_bool (Eq.symm ?_), (tr hB hbr (Nat.le_of_lt hlt)).alloc (by omega) _⟩
          have e : k = 0 ∨ k = 1 ∨ k = 2 ∨ k = 3 := by omega
          rw [← hg]
          rcases e with rfl | rfl | rfl | rfl <;> decide
        · have h2' : ¬ b = g2 := fun e => h2 e.symm
          go_wp2
          go_roundw
          case rel =>
            refine ⟨k + 1, by omega, by go_num, hbr.alloc hsz _, fun j hj => ?_⟩
            rcases Nat.lt_succ_iff_lt_or_eq.1 hj with h | rfl
            · exact hno.out j h
            · rw [hg]; intro e; injection e with e1 e2; exact h2 e2
          case measure => simp [intOf]; omega
      · have h1' : ¬ a = g1 := fun e => h1 e.symm
        go_wp2
        go_roundw
        case rel =>
          refine ⟨k + 1, by omega, by go_num, hbr.alloc hsz _, fun j hj => ?_⟩
          rcases Nat.lt_succ_iff_lt_or_eq.1 hj with h | rfl
          · exact hno.out j h
          · rw [hg]; intro e; injection e with e1 e2; exact h1 e1
        case measure => simp [intOf]; omega
    · obtain rfl : k = 4 := by omega
      go_wp2
      go_ret
      refine ⟨?_, tr hB hbr (Nat.le_of_lt hlt)⟩
      have h0 := hno.out 0 (by omega)
      have h1 := hno.out 1 (by omega)
      have h2 := hno.out 2 (by omega)
      have h3 := hno.out 3 (by omega)
      refine ret_bool (Eq.symm ?_)
      simp only [isPow, Bool.or_eq_false_iff, beq_eq_false_iff_ne]
      exact ⟨⟨⟨Ne.symm h0, Ne.symm h1⟩, Ne.symm h2⟩, Ne.symm h3⟩
end Go.Proofs.YtnigmdkhecblnaaDoor

/- Contracts: harmonics of blocks; complex numbers that are whole, multiplied and added. -/
namespace Go.Proofs.YtnigmdkhecblnaaDoor
open Go.RowKit
set_option maxRecDepth 100000

def gmul (g h : Int × Int) : Int × Int := (g.1 * h.1 - g.2 * h.2, g.1 * h.2 + g.2 * h.1)
def gadd (g h : Int × Int) : Int × Int := (g.1 + h.1, g.2 + h.2)
/-- Both parts are at most M. -/
def gle (M : Int) (g : Int × Int) : Prop := -M ≤ g.1 ∧ g.1 ≤ M ∧ -M ≤ g.2 ∧ g.2 ≤ M

theorem CI.mulTurn {v u : Value} {g : Int × Int} {k : Nat} {M : Int} (hv : CI v g) (hu : CI u (turnG k)) (hk : k < 4) (hg : gle M g) (hM : M ≤ 4503599627370496) :
    (∃ r, (∀ P W t, Sem.run P (Go.binOp .mul t v u) W = .ok r W) ∧ CI r (gmul g (turnG k))) ∧ gle M (gmul g (turnG k)) := by
  obtain ⟨a, b⟩ := g
  obtain ⟨x, y, rfl, hx, hy⟩ := hv
  obtain ⟨z, t, rfl, hz, ht⟩ := hu
  obtain ⟨g1, g2, g3, g4⟩ := hg
  dsimp only at g1 g2 g3 g4 hx hy
  have e : k = 0 ∨ k = 1 ∨ k = 2 ∨ k = 3 := by omega
  have key : ∀ c d : Int, FI z c → FI t d → (a * c).natAbs < 9007199254740992 → (b * d).natAbs < 9007199254740992 → (a * d).natAbs < 9007199254740992 → (b * c).natAbs < 9007199254740992 → (a * c - b * d).natAbs < 9007199254740992 → (a * d + b * c).natAbs < 9007199254740992 →
      ∃ r, (∀ P W t', Sem.run P (Go.binOp .mul t' (.complex .f64 x y) (.complex .f64 z t)) W = .ok r W) ∧ CI r (a * c - b * d, a * d + b * c) := by
    intro c d hc hd n1 n2 n3 n4 n5 n6
    obtain ⟨r1, m1, f1⟩ := hx.mul hc n1
    obtain ⟨r2, m2, f2⟩ := hy.mul hd n2
    obtain ⟨r3, m3, f3⟩ := f1.sub f2 n5
    obtain ⟨r4, m4, f4⟩ := hx.mul hd n3
    obtain ⟨r5, m5, f5⟩ := hy.mul hc n4
    obtain ⟨r6, m6, f6⟩ := f4.add f5 n6
    refine ⟨.complex .f64 r3 r6, fun P W t' => run_complex_mul W t' _ _ _ _ _ _ ?_, _, _, rfl, f3, f6⟩
    simp [cMulBits, m1, m2, m3, m4, m5, m6]
  rcases e with rfl | rfl | rfl | rfl
  · refine ⟨key 1 0 hz ht ?_ ?_ ?_ ?_ ?_ ?_, ?_⟩
    all_goals simp [gle, gmul, turnG, tabL]
    all_goals omega
  · refine ⟨key 0 1 hz ht ?_ ?_ ?_ ?_ ?_ ?_, ?_⟩
    all_goals simp [gle, gmul, turnG, tabL]
    all_goals omega
  · refine ⟨key (-1) 0 hz ht ?_ ?_ ?_ ?_ ?_ ?_, ?_⟩
    all_goals simp [gle, gmul, turnG, tabL]
    all_goals omega
  · refine ⟨key 0 (-1) hz ht ?_ ?_ ?_ ?_ ?_ ?_, ?_⟩
    all_goals simp [gle, gmul, turnG, tabL]
    all_goals omega

theorem CI.add {v u : Value} {g h : Int × Int} {M N : Int} (hv : CI v g) (hu : CI u h) (hg : gle M g) (hh : gle N h) (hM : M + N ≤ 4503599627370496) :
    (∃ r, (∀ P W t, Sem.run P (Go.binOp .add t v u) W = .ok r W) ∧ CI r (gadd g h)) ∧ gle (M + N) (gadd g h) := by
  obtain ⟨x, y, rfl, hx, hy⟩ := hv
  obtain ⟨z, t, rfl, hz, ht⟩ := hu
  obtain ⟨g1, g2, g3, g4⟩ := hg
  obtain ⟨h1, h2, h3, h4⟩ := hh
  obtain ⟨r1, m1, f1⟩ := hx.add hz (by omega)
  obtain ⟨r2, m2, f2⟩ := hy.add ht (by omega)
  refine ⟨⟨.complex .f64 r1 r2, fun P W t' => run_complex_sum W .add (.inl rfl) t' .f64 _ _ _ _ _ _ ?_, _, _, rfl, f1, f2⟩, ?_⟩
  · simp [cSumBits, m1, m2]
  · simp only [gle, gadd]; omega

/-- The sum of the first numbers of a block, turned for a harmonic. -/
def harmN (l : List (Int × Int)) (n : Int) : Nat → Int × Int
  | 0 => (0, 0)
  | q + 1 => gadd (harmN l n q) (gmul (l.getD q (0, 0)) (turnG ((-n * q) % 4).toNat))

theorem CI.zero : CI (.complex .f64 0 0) (0, 0) := ⟨0, 0, rfl, FI.zero, FI.zero⟩

theorem harmonic_c (v0 v1 v2 v3 : Value) (g0 g1 g2 g3 : Int × Int) (n M : Int) (w : World) (hT : Tab w) (h0 : CI v0 g0) (h1 : CI v1 g1) (h2 : CI v2 g2) (h3 : CI v3 g3)
    (m0 : gle M g0) (m1 : gle M g1) (m2 : gle M g2) (m3 : gle M g3) (hM : M ≤ 1000000000) (hM0 : 0 ≤ M) (hn : -1000 ≤ n) (hn2 : n ≤ 1000) :
    Calls Tryd.prog 53 #[.agg #[v0, v1, v2, v3], .int .i64 n] w fun r w' => (∃ v, r = .returned v ∧ CI v (harmN [g0, g1, g2, g3] n 4)) ∧ Below w.heap.size w w' := by
  have HC : Hid (∀ k : Nat, k < 4 → ∃ v, (∀ W, Sem.run Tryd.prog (Instr.index 92 (.agg #[v0, v1, v2, v3]) (.int .i64 (k : Int))) W = .ok v W) ∧ CI v ([g0, g1, g2, g3].getD k (0, 0)) ∧ gle M ([g0, g1, g2, g3].getD k (0, 0))) := by
    intro k hk
    have e : k = 0 ∨ k = 1 ∨ k = 2 ∨ k = 3 := by omega
    rcases e with rfl | rfl | rfl | rfl
    · exact ⟨v0, fun W => by simp [Instr.index, go_sem], h0, m0⟩
    · exact ⟨v1, fun W => by simp [Instr.index, go_sem], h1, m1⟩
    · exact ⟨v2, fun W => by simp [Instr.index, go_sem], h2, m2⟩
    · exact ⟨v3, fun W => by simp [Instr.index, go_sem], h3, m3⟩
  clear h0 h1 h2 h3 m0 m1 m2 m3
  obtain ⟨L, hL⟩ : ∃ L, [g0, g1, g2, g3] = L := ⟨_, rfl⟩
  rw [hL] at HC ⊢
  clear hL
  go_enter Tryd.func53, Tryd.ntmps53
  go_upto_region 2 with fail
  generalize hW : w.alloc (.cells #[v0, v1, v2, v3] 92) = W
  have hB : Below w.heap.size w W := by rw [← hW]; exact (Below.refl _ _).alloc (Nat.le_refl _) _
  have hX : Blk W w.heap.size 92 [v0, v1, v2, v3] := by rw [← hW]; exact Blk.new w 92 [v0, v1, v2, v3]
  have hTW := hT.bel hB
  clear hW
  have c0 := hX.cell 0
  have c1 := hX.cell 1
  have c2 := hX.cell 2
  have c3 := hX.cell 3
  simp only [List.getElem?_cons_zero, List.getElem?_cons_succ] at c0 c1 c2 c3
  have hlt := hX.lt
  go_wp2
  clear c0 c1 c2 c3 hX
  go_loopw [5, 9] (fun s i wr => ∃ k : Nat, k ≤ 4 ∧ i = .int .i64 k ∧ CI s (harmN L n k) ∧ gle (k * M) (harmN L n k) ∧ Below W.heap.size W wr) (fun _ i _ => 4 - (intOf i).toNat)
  case atStart => exact ⟨0, by omega, rfl, CI.zero, by simp [gle, harmN], Below.refl _ _⟩
  case round =>
    obtain ⟨k, hk, rfl, hs, hgs, hbr⟩ := hrel
    have hTr := hTW.bel hbr
    by_cases hlt4 : k < 4
    · obtain ⟨vk, hix, hvk, hmk⟩ := HC.out k hlt4
      have HN : Hid (harmN L n (k + 1) = gadd (harmN L n k) (gmul (L.getD k (0, 0)) (turnG ((-n * k) % 4).toNat))) := rfl
      generalize L.getD k (0, 0) = gk at hvk hmk HN
      generalize harmN L n k = sk at hs hgs HN
      have hnk : -3000 ≤ -n * (k : Int) ∧ -n * (k : Int) ≤ 3000 := by
        have e : k = 0 ∨ k = 1 ∨ k = 2 ∨ k = 3 := by omega
        rcases e with rfl | rfl | rfl | rfl <;> simp <;> omega
      have hkM : Hid ((k : Int) * M + M ≤ 4503599627370496) := by
        have : (k : Int) * M ≤ 4 * 1000000000 := Int.mul_le_mul (by omega) hM hM0 (by omega)
        exact (by omega : (k : Int) * M + M ≤ 4503599627370496)
      have hk4 : (-n * (k : Int) % 4).toNat < 4 := by omega
      go_wp2_with (first | (go_at_call 71; refine (powerOfI_c _ _ hTr (by omega) (by omega)).mono ?_; rintro e w3 ⟨⟨vt, rfl, ht⟩, hb3⟩; obtain ⟨⟨r1, hr1, q1⟩, l1⟩ := CI.mulTurn hvk ht hk4 hmk (by omega); obtain ⟨⟨r2, hr2, q2⟩, l2⟩ := CI.add hs q1 hgs l1 hkM.out))
      have hb3' : Below W.heap.size W w3 := tr hbr hb3 hbr.size
      go_roundw
      case rel =>
        refine ⟨k + 1, by omega, by go_num, ?_, ?_, hb3'⟩
        · rw [HN.out]; exact q2
        · rw [HN.out]
          have e : ((k + 1 : Nat) : Int) * M = (k : Int) * M + M := by rw [Int.natCast_succ, Int.add_mul, Int.one_mul]
          rw [e]; exact l2
      case measure => simp [intOf]; omega
    · obtain rfl : k = 4 := by omega
      go_wp2
      go_ret
      exact ⟨⟨_, rfl, hs⟩, tr hB hbr (Nat.le_of_lt hlt)⟩
end Go.Proofs.YtnigmdkhecblnaaDoor

/- Contracts: blocks of a frame. -/
namespace Go.Proofs.YtnigmdkhecblnaaDoor
open Go.RowKit
set_option maxRecDepth 100000

/-- A complex number is stored in one cell. -/
theorem run_store_complex (P : Program) (w : World) (a : Addr) (k : FloatKind) (x y : Nat) (m : Mode) : (store a (.complex k x y) m).run P w = stored P w a (.complex k x y) m := run_store P w a _ m rfl
attribute [local go_sem] run_store_complex

theorem Rd.b_at {w : World} {A : Option Addr} {l : List Bool} (h : Rd w A (bls l)) {k : Nat} (hk : k < l.length) : ∃ b off, A = some ⟨b, off, none⟩ ∧ b < w.heap.size ∧ w.cell? ⟨b, off + k, none⟩ = some (.bool l[k]) := by
  obtain ⟨b, off, rfl, hlt, hc⟩ := h (by intro e; have := congrArg List.length e; rw [bls_length, List.length_nil] at this; omega)
  exact ⟨b, off, rfl, hlt, hc k _ (by simp [bls, hk])⟩

/-- Zero, as a complex number. -/
def cz : Value := .complex .f64 0 0
/-- All four samples of a block are usable. -/
def allU (us : List Bool) (first : Nat) : Bool := us.getD first false && us.getD (first + 1) false && us.getD (first + 2) false && us.getD (first + 3) false
theorem allU_iff {us : List Bool} {first : Nat} : allU us first = true ↔ ∀ q, q < 4 → us.getD (first + q) false = true := by
  simp only [allU, Bool.and_eq_true]
  constructor
  · rintro ⟨⟨⟨h0, h1⟩, h2⟩, h3⟩ q hq
    have e : q = 0 ∨ q = 1 ∨ q = 2 ∨ q = 3 := by omega
    rcases e with rfl | rfl | rfl | rfl
    · exact h0
    · exact h1
    · exact h2
    · exact h3
  · intro h
    exact ⟨⟨⟨h 0 (by omega), h 1 (by omega)⟩, h 2 (by omega)⟩, h 3 (by omega)⟩

theorem blockAt_c (gain limit : Int) (A G U : Option Addr) (cA c cU ng : Nat) (samples : List (Int × Int)) (us : List Bool) (first : Nat) (w : World) (hs : Rd w A (gs samples)) (hu : Rd w U (bls us)) (hl : us.length = samples.length)
    (hf : first + 4 ≤ samples.length) (hn : samples.length ≤ 1000) (hb : ∀ g ∈ samples, gle 2000000 g) :
    Calls Tryd.prog 70 #[.agg #[.int .i64 gain, .int .i64 limit, .slice A samples.length cA, .slice G ng c, .slice U samples.length cU], .int .i64 first] w fun r w' =>
      ((allU us first = true ∧ ∃ v0 v1 v2 v3, r = .returned (.tuple #[.agg #[v0, v1, v2, v3], .bool true]) ∧ CI v0 (samples.getD first (0, 0)) ∧ CI v1 (samples.getD (first + 1) (0, 0)) ∧ CI v2 (samples.getD (first + 2) (0, 0)) ∧ CI v3 (samples.getD (first + 3) (0, 0))) ∨
        (allU us first = false ∧ r = .returned (.tuple #[.agg #[cz, cz, cz, cz], .bool false]))) ∧ Below w.heap.size w w' := by
  have HB := hide hb
  clear hb
  go_enter Tryd.func70, Tryd.ntmps70
  go_upto_region 2 with fail
  obtain ⟨W, hW⟩ : ∃ W, ((w.alloc (.cells #[.int .i64 gain, .int .i64 limit, .slice A samples.length cA, .slice G ng c, .slice U samples.length cU] 81)).alloc (.cells #[.complex .f64 0 0, .complex .f64 0 0, .complex .f64 0 0, .complex .f64 0 0] 92)).alloc (.cells #[.complex .f64 0 0, .complex .f64 0 0, .complex .f64 0 0, .complex .f64 0 0] 92) = W := ⟨_, rfl⟩
  have hsz : W.heap.size = w.heap.size + 3 := by rw [← hW]; simp
  have hB : Below w.heap.size w W := by rw [← hW]; exact (((Below.refl _ _).alloc (Nat.le_refl _) _).alloc (by simp) _).alloc (by simp; omega) _
  have hX : Blk W w.heap.size 81 [.int .i64 gain, .int .i64 limit, .slice A samples.length cA, .slice G ng c, .slice U samples.length cU] := by
    rw [← hW]
    refine Blk.below (B := w.heap.size + 1) (Blk.new w 81 [.int .i64 gain, .int .i64 limit, .slice A samples.length cA, .slice G ng c, .slice U samples.length cU]) ?_ (by omega)
    exact ((Below.refl _ _).alloc (by simp) _).alloc (by simp) _
  have hR : Blk W (w.heap.size + 1) 92 [cz, cz, cz, cz] := by
    rw [← hW]
    have h0 := Blk.new (w.alloc (.cells #[.int .i64 gain, .int .i64 limit, .slice A samples.length cA, .slice G ng c, .slice U samples.length cU] 81)) 92 [cz, cz, cz, cz]
    rw [show (w.alloc (.cells #[.int .i64 gain, .int .i64 limit, .slice A samples.length cA, .slice G ng c, .slice U samples.length cU] 81)).heap.size = w.heap.size + 1 from by simp] at h0
    refine Blk.below (B := w.heap.size + 2) h0 ?_ (by omega)
    exact (Below.refl _ _).alloc (by simp) _
  have hC : Blk W (w.heap.size + 2) 92 [cz, cz, cz, cz] := by
    rw [← hW]
    have h0 := Blk.new ((w.alloc (.cells #[.int .i64 gain, .int .i64 limit, .slice A samples.length cA, .slice G ng c, .slice U samples.length cU] 81)).alloc (.cells #[cz, cz, cz, cz] 92)) 92 [cz, cz, cz, cz]
    rw [show ((w.alloc (.cells #[.int .i64 gain, .int .i64 limit, .slice A samples.length cA, .slice G ng c, .slice U samples.length cU] 81)).alloc (.cells #[cz, cz, cz, cz] 92)).heap.size = w.heap.size + 2 from by simp] at h0
    exact h0
  rw [hW]
  clear hW
  obtain ⟨p, hp⟩ : ∃ p, w.heap.size + 1 = p := ⟨_, rfl⟩
  obtain ⟨q, hq⟩ : ∃ q, p + 1 = q := ⟨_, rfl⟩
  have hqe : w.heap.size + 2 = q := by omega
  rw [hp] at hR ⊢
  rw [hqe] at hC
  rw [hq]
  have c2 := hX.cell 2
  have c4 := hX.cell 4
  simp only [List.getElem?_cons_zero, List.getElem?_cons_succ] at c2 c4
  go_wp2
  go_loopw [8] (fun i wr => ∃ k : Nat, k ≤ 4 ∧ i = .int .i64 k ∧ Below q W wr ∧ ∃ cs : List Value, cs.length = 4 ∧ Blk wr q 92 cs ∧
    Hid (∀ j, j < k → us.getD (first + j) false = true ∧ ∃ v, cs[j]? = some v ∧ CI v (samples.getD (first + j) (0, 0)))) (fun i _ => 4 - (intOf i).toNat)
  case atStart => exact ⟨0, by omega, rfl, Below.refl _ _, [cz, cz, cz, cz], rfl, hC, fun j h => absurd h (by omega)⟩
  case round =>
    obtain ⟨k, hk, rfl, hbr, cs, hcs, hCr, hst⟩ := hrel
    have hbw : Below w.heap.size w wr := tr hB hbr (by omega)
    have b2 := (hbr.cell (p := ⟨w.heap.size, 2, none⟩) (by show w.heap.size < q; omega)).trans c2
    have b4 := (hbr.cell (p := ⟨w.heap.size, 4, none⟩) (by show w.heap.size < q; omega)).trans c4
    by_cases hlt4 : k < 4
    · obtain ⟨bU, offU, rfl, hbU, zu⟩ := (hu.bel hbw).b_at (k := first + k) (by omega)
      have hgd : us.getD (first + k) false = us[first + k] := by simp [List.getD, show first + k < us.length from by omega]
      by_cases hus : us[first + k] = true
      · rw [hus] at zu hgd
        obtain ⟨bA, offA, rfl, hbA, z1, z2⟩ := (hs.bel hbw).g_at (k := first + k) (by omega)
        have hgs : samples.getD (first + k) (0, 0) = samples[first + k] := by simp [List.getD, show first + k < samples.length from by omega]
        have hle := HB.out _ (List.getElem_mem (show first + k < samples.length by omega))
        generalize samples[first + k] = smp at z1 z2 hgs hle
        obtain ⟨sa, sb⟩ := smp
        obtain ⟨l1, l2, l3, l4⟩ := hle
        dsimp only at z1 z2 l1 l2 l3 l4
        have hck : ∃ v, cs[k]? = some v := ⟨_, List.getElem?_eq_getElem (by omega)⟩
        obtain ⟨vk, hvk⟩ := hck
        go_wp2_with (first | (go_at_call 83; refine (number_c sa sb _ (by omega) (by omega)).mono ?_; rintro e w3 ⟨⟨vn, rfl, xn, yn, rfl, fxn, fyn⟩, hb3⟩; have hC3 := hCr.bel hb3; have zf3 := hC3.frozen k; have zc3 := (hC3.cell k).trans hvk))
        go_roundw
        case rel =>
          have hqr := hCr.lt
          refine ⟨k + 1, by omega, by go_num, (hbr.trans (hb3.mono (by omega))).setCell (Nat.le_refl _) _, cs.set k (.complex .f64 xn yn), by simp [hcs], hC3.set_ k _, fun j hj => ?_⟩
          rcases Nat.lt_succ_iff_lt_or_eq.1 hj with h | rfl
          · obtain ⟨s1, v, s2, s3⟩ := hst.out j h
            exact ⟨s1, v, by rw [List.getElem?_set_ne (by omega)]; exact s2, s3⟩
          · exact ⟨hgd, .complex .f64 xn yn, by rw [List.getElem?_set_self (by omega)], by rw [hgs]; exact ⟨xn, yn, rfl, fxn, fyn⟩⟩
        case measure => simp [intOf]; omega
      · have hus' : us[first + k] = false := by simpa using hus
        rw [hus'] at zu hgd
        have HAU : Hid (allU us first = false) := by
          rw [Hid]
          cases h : allU us first
          · rfl
          · rw [allU_iff.1 h k hlt4] at hgd; cases hgd
        clear hus hgd
        have hRr : Blk wr p 92 [cz, cz, cz, cz] := hR.below hbr (by omega)
        have d0 := hRr.cell 0
        have d1 := hRr.cell 1
        have d2 := hRr.cell 2
        have d3 := hRr.cell 3
        simp only [List.getElem?_cons_zero, List.getElem?_cons_succ] at d0 d1 d2 d3
        have k0 := hRr.frozen 0
        have k1 := hRr.frozen 1
        have k2 := hRr.frozen 2
        have k3 := hRr.frozen 3
        go_wp2
        obtain ⟨WE, hWE⟩ : ∃ WE, (((wr.setCell ⟨p, 0, none⟩ (.complex .f64 0 0)).setCell ⟨p, 1, none⟩ (.complex .f64 0 0)).setCell ⟨p, 2, none⟩ (.complex .f64 0 0)).setCell ⟨p, 3, none⟩ (.complex .f64 0 0) = WE := ⟨_, rfl⟩
        rw [hWE]
        have hE : Blk WE p 92 [cz, cz, cz, cz] := by
          rw [← hWE]; exact (((hRr.set_ 0 _).set_ 1 _).set_ 2 _).set_ 3 _
        have hBE : Below w.heap.size w WE := by
          rw [← hWE]
          exact (((hbw.setCell (by show w.heap.size ≤ p; omega) _).setCell (by show w.heap.size ≤ p; omega) _).setCell (by show w.heap.size ≤ p; omega) _).setCell (by show w.heap.size ≤ p; omega) _
        have g0 := hE.cell 0
        have g1 := hE.cell 1
        have g2 := hE.cell 2
        have g3 := hE.cell 3
        simp only [List.getElem?_cons_zero, List.getElem?_cons_succ] at g0 g1 g2 g3
        clear hWE
        try simp only [Exit.inBlock, Exit.then]
        refine bodyPost_ret (by simp [results, Tryd.results70, go_sem, g0, g1, g2, g3]; try rfl) rfl ?_
        exact ⟨.inr ⟨HAU.out, rfl⟩, hBE⟩
    · obtain rfl : k = 4 := by omega
      obtain ⟨a0, a1, a2, a3, rfl⟩ : ∃ a0 a1 a2 a3, cs = [a0, a1, a2, a3] := by
        match cs, hcs with
        | [a0, a1, a2, a3], _ => exact ⟨a0, a1, a2, a3, rfl⟩
      obtain ⟨x0, y0, rfl, fx0, fy0⟩ : CI a0 (samples.getD (first + 0) (0, 0)) := by
        obtain ⟨_, v, h1, h2⟩ := hst.out 0 (by omega)
        cases h1; exact h2
      obtain ⟨x1, y1, rfl, fx1, fy1⟩ : CI a1 (samples.getD (first + 1) (0, 0)) := by
        obtain ⟨_, v, h1, h2⟩ := hst.out 1 (by omega)
        cases h1; exact h2
      obtain ⟨x2, y2, rfl, fx2, fy2⟩ : CI a2 (samples.getD (first + 2) (0, 0)) := by
        obtain ⟨_, v, h1, h2⟩ := hst.out 2 (by omega)
        cases h1; exact h2
      obtain ⟨x3, y3, rfl, fx3, fy3⟩ : CI a3 (samples.getD (first + 3) (0, 0)) := by
        obtain ⟨_, v, h1, h2⟩ := hst.out 3 (by omega)
        cases h1; exact h2
      have u0 := hCr.cell 0
      have u1 := hCr.cell 1
      have u2 := hCr.cell 2
      have u3 := hCr.cell 3
      simp only [List.getElem?_cons_zero, List.getElem?_cons_succ] at u0 u1 u2 u3
      have hRr : Blk wr p 92 [cz, cz, cz, cz] := hR.below hbr (by omega)
      have d0 := hRr.cell 0
      have d1 := hRr.cell 1
      have d2 := hRr.cell 2
      have d3 := hRr.cell 3
      simp only [List.getElem?_cons_zero, List.getElem?_cons_succ] at d0 d1 d2 d3
      have k0 := hRr.frozen 0
      have k1 := hRr.frozen 1
      have k2 := hRr.frozen 2
      have k3 := hRr.frozen 3
      go_wp2
      obtain ⟨WE, hWE⟩ : ∃ WE, (((wr.setCell ⟨p, 0, none⟩ (.complex .f64 x0 y0)).setCell ⟨p, 1, none⟩ (.complex .f64 x1 y1)).setCell ⟨p, 2, none⟩ (.complex .f64 x2 y2)).setCell ⟨p, 3, none⟩ (.complex .f64 x3 y3) = WE := ⟨_, rfl⟩
      rw [hWE]
      have hE : Blk WE p 92 [.complex .f64 x0 y0, .complex .f64 x1 y1, .complex .f64 x2 y2, .complex .f64 x3 y3] := by
        rw [← hWE]; exact (((hRr.set_ 0 _).set_ 1 _).set_ 2 _).set_ 3 _
      have hBE : Below w.heap.size w WE := by
        rw [← hWE]
        exact (((hbw.setCell (by show w.heap.size ≤ p; omega) _).setCell (by show w.heap.size ≤ p; omega) _).setCell (by show w.heap.size ≤ p; omega) _).setCell (by show w.heap.size ≤ p; omega) _
      have g0 := hE.cell 0
      have g1 := hE.cell 1
      have g2 := hE.cell 2
      have g3 := hE.cell 3
      simp only [List.getElem?_cons_zero, List.getElem?_cons_succ] at g0 g1 g2 g3
      clear hWE
      try simp only [Exit.inBlock, Exit.then]
      refine bodyPost_ret (by simp [results, Tryd.results70, go_sem, g0, g1, g2, g3]; try rfl) rfl ?_
      exact ⟨.inl ⟨allU_iff.2 fun j hj => (hst.out j hj).1, _, _, _, _, rfl, ⟨x0, y0, rfl, fx0, fy0⟩, ⟨x1, y1, rfl, fx1, fy1⟩, ⟨x2, y2, rfl, fx2, fy2⟩, ⟨x3, y3, rfl, fx3, fy3⟩⟩, hBE⟩
end Go.Proofs.YtnigmdkhecblnaaDoor

/- Contracts: errors of waves; new lines. -/
namespace Go.Proofs.YtnigmdkhecblnaaDoor
open Go.RowKit
set_option maxRecDepth 100000

/-- The error of a wave. -/
def waveItem (g : Int × Int) : Int := errIf (!isPow g) 3
def waveErr (l : List (Int × Int)) : Int := if lenE l.length 32 = 0 then (firstBadFrom (fun _ g => waveItem g) 0 l).2 else lenE l.length 32

theorem waveErr_zero {l : List (Int × Int)} (h : waveErr l = 0) : 1 ≤ l.length ∧ l.length ≤ 32 ∧ ∀ g ∈ l, isPow g = true := by
  unfold waveErr at h
  by_cases h1 : lenE l.length 32 = 0
  · rw [if_pos h1] at h
    rw [lenE_eq] at h1
    refine ⟨?_, ?_, fun g hg => ?_⟩
    · split at h1 <;> omega
    · split at h1
      · omega
      · split at h1 <;> omega
    · obtain ⟨i, hi, rfl⟩ := List.getElem_of_mem hg
      have := firstBadFrom_zero h i hi
      unfold waveItem errIf at this
      cases hp : isPow l[i]
      · rw [hp] at this; simp at this
      · rfl
  · rw [if_neg h1] at h; exact absurd h h1

theorem isPow_turn {g : Int × Int} (h : isPow g = true) : ∃ k, k < 4 ∧ g = turnG k := by
  simp only [isPow, Bool.or_eq_true, beq_iff_eq] at h
  rcases h with ((rfl | rfl) | rfl) | rfl
  · exact ⟨0, by omega, rfl⟩
  · exact ⟨1, by omega, rfl⟩
  · exact ⟨2, by omega, rfl⟩
  · exact ⟨3, by omega, rfl⟩

theorem waveError1_c (k a b : Int) (w : World) (hT : Tab w) :
    Calls Tryd.prog 80 (#[.int .i64 k, .agg #[.int .i64 a, .int .i64 b]] ++ #[]) w fun r w' => r = .returned (.int .i64 (waveItem (a, b))) ∧ Below w.heap.size w w' := by
  rw [show (#[.int .i64 k, .agg #[.int .i64 a, .int .i64 b]] ++ #[] : Array Value) = #[.int .i64 k, .agg #[.int .i64 a, .int .i64 b]] from rfl]
  have H : Hid (waveItem (a, b) = errIf (!isPow (a, b)) 3) := rfl
  go_enter Tryd.func80, Tryd.ntmps80
  go_upto_region 1 with fail
  generalize hW : w.alloc (.cells #[.int .i64 a, .int .i64 b] 47) = W
  have hB : Below w.heap.size w W := by rw [← hW]; exact (Below.refl _ _).alloc (Nat.le_refl _) _
  have hX : Blk W w.heap.size 47 [.int .i64 a, .int .i64 b] := by rw [← hW]; exact Blk.new w 47 [.int .i64 a, .int .i64 b]
  have hTW := hT.bel hB
  clear hW
  have c0 := hX.cell 0
  have c1 := hX.cell 1
  simp only [List.getElem?_cons_zero, List.getElem?_cons_succ] at c0 c1
  go_wp2_with (first | (go_at_call 81; refine (isPowerOfI_c a b _ hTW).mono ?_; rintro e w1 ⟨rfl, hb1⟩) | (go_at_call 41; refine (errorIf_c _ _ _).mono ?_; rintro e_ w_ ⟨rfl, rfl⟩) | (go_at_call 60; refine (outside_c _ _ _ _).mono ?_; rintro e_ w_ ⟨rfl, rfl⟩))
  go_ret
  exact ⟨by rw [H.out]; rfl, tr hB hb1 hB.size⟩

theorem waveError_c (l : List (Int × Int)) (A : Option Addr) (c : Nat) (w : World) (hT : Tab w) (hr : Rd w A (gs l)) (hl : l.length ≤ 1000) :
    Calls Tryd.prog 62 #[.slice A l.length c] w fun r w' => r = .returned (.int .i64 (waveErr l)) ∧ Below w.heap.size w w' := by
  by_cases h0 : lenE l.length 32 = 0
  · have e1 : (lenE l.length 32 != 0) = false := by simpa using h0
    have HR : Hid (waveErr l = (firstBadFrom (fun _ g => waveItem g) 0 l).2) := by
      show waveErr l = _
      unfold waveErr
      rw [if_pos h0]
    clear h0
    go_enter Tryd.func62, Tryd.ntmps62
    go_wp2_with (first
      | (go_at_call 73; refine (lengthError_c _ _ _).mono ?_; rintro e w1 ⟨rfl, hb1⟩)
      | (go_at_call 79; refine (firstBadG_c (fun _ g => waveItem g) 80 l A c #[] _ (hr.bel hb1) hl Tryd.call80 (fun k h W' hb => waveError1_c k _ _ W' ((hT.bel hb1).bel hb))).mono ?_; rintro e w2 ⟨rfl, hb2⟩))
    go_ret
    exact ⟨by rw [HR.out]; rfl, tr hb1 hb2 hb1.size⟩
  · have e1 : (lenE l.length 32 != 0) = true := by simpa using h0
    have HR : Hid (waveErr l = lenE l.length 32) := by
      show waveErr l = _
      unfold waveErr
      rw [if_neg h0]
    clear h0
    go_enter Tryd.func62, Tryd.ntmps62
    go_wp2_with (first
      | (go_at_call 73; refine (lengthError_c _ _ _).mono ?_; rintro e w1 ⟨rfl, hb1⟩))
    go_ret
    exact ⟨by rw [HR.out]; rfl, hb1⟩
end Go.Proofs.YtnigmdkhecblnaaDoor

/- Contracts: what a wave gives at a lag of a frame. -/
namespace Go.Proofs.YtnigmdkhecblnaaDoor
open Go.RowKit
set_option maxRecDepth 100000
attribute [local go_sem] run_store_complex

def gconj (g : Int × Int) : Int × Int := (g.1, -g.2)
/-- The sum, and the number of missing samples, over the first numbers of a wave. -/
def compS (us : List Bool) (samples wave : List (Int × Int)) (lag : Nat) : Nat → Int × Int
  | 0 => (0, 0)
  | i + 1 => if us.getD (lag + i) false = true then gadd (compS us samples wave lag i) (gmul (gconj (wave.getD i (0, 0))) (samples.getD (lag + i) (0, 0))) else compS us samples wave lag i
def compM (us : List Bool) (lag : Nat) : Nat → Nat
  | 0 => 0
  | i + 1 => if us.getD (lag + i) false = true then compM us lag i else compM us lag i + 1
theorem compM_le (us : List Bool) (lag k : Nat) : compM us lag k ≤ k := by
  induction k with
  | zero => exact Nat.le_refl _
  | succ k ih => simp only [compM]; split <;> omega

theorem compM_hit {us : List Bool} {lag k : Nat} (h : us.getD (lag + k) false = true) : compM us lag (k + 1) = compM us lag k := by simp only [compM]; rw [if_pos h]
theorem compM_miss {us : List Bool} {lag k : Nat} (h : us.getD (lag + k) false = false) : compM us lag (k + 1) = compM us lag k + 1 := by simp only [compM]; rw [if_neg (by rw [h]; decide)]
theorem compS_hit {us : List Bool} {samples wave : List (Int × Int)} {lag k : Nat} (h : us.getD (lag + k) false = true) : compS us samples wave lag (k + 1) = gadd (compS us samples wave lag k) (gmul (gconj (wave.getD k (0, 0))) (samples.getD (lag + k) (0, 0))) := by simp only [compS]; rw [if_pos h]
theorem compS_miss {us : List Bool} {samples wave : List (Int × Int)} {lag k : Nat} (h : us.getD (lag + k) false = false) : compS us samples wave lag (k + 1) = compS us samples wave lag k := by simp only [compS]; rw [if_neg (by rw [h]; decide)]
theorem conj_turn {k : Nat} (hk : k < 4) : ∃ j, j < 4 ∧ gconj (turnG k) = turnG j := by
  have e : k = 0 ∨ k = 1 ∨ k = 2 ∨ k = 3 := by omega
  rcases e with rfl | rfl | rfl | rfl
  · exact ⟨0, by omega, by decide⟩
  · exact ⟨3, by omega, by decide⟩
  · exact ⟨2, by omega, by decide⟩
  · exact ⟨1, by omega, by decide⟩

theorem CI.turnMul {v u : Value} {g : Int × Int} {k : Nat} {M : Int} (hv : CI v g) (hu : CI u (turnG k)) (hk : k < 4) (hg : gle M g) (hM : M ≤ 4503599627370496) :
    (∃ r, (∀ P W t, Sem.run P (Go.binOp .mul t u v) W = .ok r W) ∧ CI r (gmul (turnG k) g)) ∧ gle M (gmul (turnG k) g) := by
  obtain ⟨a, b⟩ := g
  obtain ⟨x, y, rfl, hx, hy⟩ := hv
  obtain ⟨z, t, rfl, hz, ht⟩ := hu
  obtain ⟨g1, g2, g3, g4⟩ := hg
  dsimp only at g1 g2 g3 g4 hx hy
  have e : k = 0 ∨ k = 1 ∨ k = 2 ∨ k = 3 := by omega
  have key : ∀ c d : Int, FI z c → FI t d → (c * a).natAbs < 9007199254740992 → (d * b).natAbs < 9007199254740992 → (c * b).natAbs < 9007199254740992 → (d * a).natAbs < 9007199254740992 → (c * a - d * b).natAbs < 9007199254740992 → (c * b + d * a).natAbs < 9007199254740992 →
      ∃ r, (∀ P W t', Sem.run P (Go.binOp .mul t' (.complex .f64 z t) (.complex .f64 x y)) W = .ok r W) ∧ CI r (c * a - d * b, c * b + d * a) := by
    intro c d hc hd n1 n2 n3 n4 n5 n6
    obtain ⟨r1, m1, f1⟩ := hc.mul hx n1
    obtain ⟨r2, m2, f2⟩ := hd.mul hy n2
    obtain ⟨r3, m3, f3⟩ := f1.sub f2 n5
    obtain ⟨r4, m4, f4⟩ := hc.mul hy n3
    obtain ⟨r5, m5, f5⟩ := hd.mul hx n4
    obtain ⟨r6, m6, f6⟩ := f4.add f5 n6
    refine ⟨.complex .f64 r3 r6, fun P W t' => run_complex_mul W t' _ _ _ _ _ _ ?_, _, _, rfl, f3, f6⟩
    simp [cMulBits, m1, m2, m3, m4, m5, m6]
  rcases e with rfl | rfl | rfl | rfl
  · refine ⟨key 1 0 hz ht ?_ ?_ ?_ ?_ ?_ ?_, ?_⟩
    all_goals simp [gle, gmul, turnG, tabL]
    all_goals omega
  · refine ⟨key 0 1 hz ht ?_ ?_ ?_ ?_ ?_ ?_, ?_⟩
    all_goals simp [gle, gmul, turnG, tabL]
    all_goals omega
  · refine ⟨key (-1) 0 hz ht ?_ ?_ ?_ ?_ ?_ ?_, ?_⟩
    all_goals simp [gle, gmul, turnG, tabL]
    all_goals omega
  · refine ⟨key 0 (-1) hz ht ?_ ?_ ?_ ?_ ?_ ?_, ?_⟩
    all_goals simp [gle, gmul, turnG, tabL]
    all_goals omega

section
variable {w wx w1 : World} {n : Nat} {p0 p1 p2 p3 p4 : Addr} {v0 v1 v2 v3 v4 : Value}
theorem hold5_bel (h : wx.cell? p0 = some v0 ∧ wx.cell? p1 = some v1 ∧ wx.cell? p2 = some v2 ∧ wx.cell? p3 = some v3 ∧ wx.cell? p4 = some v4 ∧ Below n w wx) (hb : Below wx.heap.size wx w1) (hB : n ≤ wx.heap.size) :
    w1.cell? p0 = some v0 ∧ w1.cell? p1 = some v1 ∧ w1.cell? p2 = some v2 ∧ w1.cell? p3 = some v3 ∧ w1.cell? p4 = some v4 ∧ Below n w w1 := by
  obtain ⟨h0, h1, h2, h3, h4, h5⟩ := h
  exact ⟨(hb.cell (World.block_lt_of_cell? _ _ h0)).trans h0, (hb.cell (World.block_lt_of_cell? _ _ h1)).trans h1, (hb.cell (World.block_lt_of_cell? _ _ h2)).trans h2, (hb.cell (World.block_lt_of_cell? _ _ h3)).trans h3, (hb.cell (World.block_lt_of_cell? _ _ h4)).trans h4, h5.trans (hb.mono hB)⟩
theorem hold5_drew (h : wx.cell? p0 = some v0 ∧ wx.cell? p1 = some v1 ∧ wx.cell? p2 = some v2 ∧ wx.cell? p3 = some v3 ∧ wx.cell? p4 = some v4 ∧ Below n w wx) :
    wx.drew.cell? p0 = some v0 ∧ wx.drew.cell? p1 = some v1 ∧ wx.drew.cell? p2 = some v2 ∧ wx.drew.cell? p3 = some v3 ∧ wx.drew.cell? p4 = some v4 ∧ Below n w wx.drew :=
  ⟨h.1, h.2.1, h.2.2.1, h.2.2.2.1, h.2.2.2.2.1, h.2.2.2.2.2.drew⟩
end

theorem compressedAt_c (gain limit : Int) (A G U B : Option Addr) (cA c cU ng cB : Nat) (samples wave : List (Int × Int)) (us : List Bool) (lag : Nat) (w : World) (hs : Rd w A (gs samples)) (hu : Rd w U (bls us)) (hv : Rd w B (gs wave))
    (hl : us.length = samples.length) (hf : lag + wave.length ≤ samples.length) (hn : samples.length ≤ 1000) (hb : ∀ g ∈ samples, gle 2000000 g) (hp : ∀ g ∈ wave, isPow g = true) :
    Calls Tryd.prog 64 #[.agg #[.int .i64 gain, .int .i64 limit, .slice A samples.length cA, .slice G ng c, .slice U samples.length cU], .slice B wave.length cB, .int .i64 lag] w fun r w' =>
      r = .returned (.tuple #[.agg #[.int .i64 (compS us samples wave lag wave.length).1, .int .i64 (compS us samples wave lag wave.length).2], .int .i64 (compM us lag wave.length)]) ∧ Below w.heap.size w w' := by
  have HB := hide hb
  have HP := hide hp
  clear hb hp
  go_enter Tryd.func64, Tryd.ntmps64
  go_upto_region 2 with fail
  obtain ⟨W, hW⟩ : ∃ W, (w.alloc (.cells #[.int .i64 gain, .int .i64 limit, .slice A samples.length cA, .slice G ng c, .slice U samples.length cU] 81)).alloc (.cells #[.int .i64 0, .int .i64 0] 47) = W := ⟨_, rfl⟩
  have hsz : W.heap.size = w.heap.size + 2 := by rw [← hW]; simp
  have hB : Below w.heap.size w W := by rw [← hW]; exact ((Below.refl _ _).alloc (Nat.le_refl _) _).alloc (by simp) _
  have hX : Blk W w.heap.size 81 [.int .i64 gain, .int .i64 limit, .slice A samples.length cA, .slice G ng c, .slice U samples.length cU] := by
    rw [← hW]
    refine Blk.below (B := w.heap.size + 1) (Blk.new w 81 [.int .i64 gain, .int .i64 limit, .slice A samples.length cA, .slice G ng c, .slice U samples.length cU]) ?_ (by omega)
    exact (Below.refl _ _).alloc (by simp) _
  have hR : Blk W (w.heap.size + 1) 47 [.int .i64 0, .int .i64 0] := by
    rw [← hW]
    have h0 := Blk.new (w.alloc (.cells #[.int .i64 gain, .int .i64 limit, .slice A samples.length cA, .slice G ng c, .slice U samples.length cU] 81)) 47 [.int .i64 0, .int .i64 0]
    rw [show (w.alloc (.cells #[.int .i64 gain, .int .i64 limit, .slice A samples.length cA, .slice G ng c, .slice U samples.length cU] 81)).heap.size = w.heap.size + 1 from by simp] at h0
    exact h0
  rw [hW]
  clear hW
  obtain ⟨p, hp⟩ : ∃ p, w.heap.size + 1 = p := ⟨_, rfl⟩
  rw [hp] at hR ⊢
  have c2 := hX.cell 2
  have c4 := hX.cell 4
  simp only [List.getElem?_cons_zero, List.getElem?_cons_succ] at c2 c4
  go_wp2
  go_loopw [8, 9, 14] (fun s m i wr => ∃ k : Nat, k ≤ wave.length ∧ i = .int .i64 k ∧ m = .int .i64 (compM us lag k) ∧ CI s (compS us samples wave lag k) ∧ gle (k * 2000000) (compS us samples wave lag k) ∧ Below W.heap.size W wr) (fun _ _ i _ => wave.length - (intOf i).toNat)
  case atStart => exact ⟨0, by omega, rfl, rfl, CI.zero, by simp [gle, compS], Below.refl _ _⟩
  case round =>
    obtain ⟨k, hk, rfl, rfl, hcs, hgs, hbr⟩ := hrel
    have hbw : Below w.heap.size w wr := tr hB hbr (by omega)
    have b2 := (hbr.cell (p := ⟨w.heap.size, 2, none⟩) (by show w.heap.size < W.heap.size; omega)).trans c2
    have b4 := (hbr.cell (p := ⟨w.heap.size, 4, none⟩) (by show w.heap.size < W.heap.size; omega)).trans c4
    have hltr : w.heap.size < wr.heap.size := by have := hbr.size; omega
    by_cases hlt : k < wave.length
    · obtain ⟨bB, offB, rfl, hbB, y1, y2⟩ := (hv.bel hbw).g_at (k := k) hlt
      obtain ⟨bU, offU, rfl, hbU, zu⟩ := (hu.bel hbw).b_at (k := lag + k) (by omega)
      have hgd : us.getD (lag + k) false = us[lag + k] := by simp [List.getD, show lag + k < us.length from by omega]
      have hgw : wave.getD k (0, 0) = wave[k] := by simp [List.getD, hlt]
      obtain ⟨t, ht, hwt⟩ := isPow_turn (HP.out _ (List.getElem_mem hlt))
      have hmk := compM_le us lag k
      by_cases hus : us[lag + k] = true
      · rw [hus] at zu hgd
        have HM : Hid (compM us lag (k + 1) = compM us lag k) := compM_hit hgd
        obtain ⟨bA, offA, rfl, hbA, z1, z2⟩ := (hs.bel hbw).g_at (k := lag + k) (by omega)
        have hgs' : samples.getD (lag + k) (0, 0) = samples[lag + k] := by simp [List.getD, show lag + k < samples.length from by omega]
        have hle := HB.out _ (List.getElem_mem (show lag + k < samples.length by omega))
        have HS : Hid (compS us samples wave lag (k + 1) = gadd (compS us samples wave lag k) (gmul (gconj wave[k]) samples[lag + k])) := by rw [← hgw, ← hgs']; exact compS_hit hgd
        rw [hwt] at y1 y2 HS
        clear hwt hgw hus hgd hgs'
        generalize samples[lag + k] = smp at z1 z2 HS hle
        obtain ⟨sa, sb⟩ := smp
        obtain ⟨l1, l2, l3, l4⟩ := hle
        have hle : Hid (gle 2000000 (sa, sb)) := ⟨l1, l2, l3, l4⟩
        dsimp only at z1 z2 l1 l2 l3 l4
        obtain ⟨j, hj, hcj⟩ := conj_turn ht
        have htb := turnG_small t ht
        generalize hgt : turnG t = gt at y1 y2 HS hcj htb
        obtain ⟨ga, gb⟩ := gt
        obtain ⟨t1, t2, t3, t4⟩ := htb
        dsimp only at y1 y2 t1 t2 t3 t4
        generalize compM us lag k = mk at HM hmk
        generalize compS us samples wave lag k = sk at HS hcs hgs
        go_upto_region 6 with fail
        generalize hV : wr.alloc (.cells #[.int .i64 ga, .int .i64 gb] 47) = V
        have hBV : Below wr.heap.size wr V := by rw [← hV]; exact (Below.refl _ _).alloc (Nat.le_refl _) _
        have hTV : Blk V wr.heap.size 47 [.int .i64 ga, .int .i64 gb] := by rw [← hV]; exact Blk.new wr 47 [.int .i64 ga, .int .i64 gb]
        clear hV
        have HV : Hid (V.cell? ⟨w.heap.size, 2, none⟩ = some (.slice (some ⟨bA, offA, none⟩) samples.length cA) ∧ V.cell? ⟨wr.heap.size, 0, none⟩ = some (.int .i64 ga) ∧ V.cell? ⟨wr.heap.size, 1, none⟩ = some (.int .i64 gb) ∧
            V.cell? ⟨bA, offA + (lag + k) * 2, none⟩ = some (.int .i64 sa) ∧ V.cell? ⟨bA, offA + (lag + k) * 2 + 1, none⟩ = some (.int .i64 sb) ∧ Below W.heap.size W V) :=
          ⟨(hBV.cell (p := ⟨w.heap.size, 2, none⟩) hltr).trans b2, hTV.cell 0, hTV.cell 1, (hBV.cell (p := ⟨bA, _, none⟩) hbA).trans z1, (hBV.cell (p := ⟨bA, _, none⟩) hbA).trans z2, tr hbr hBV hbr.size⟩
        have hz0 : W.heap.size ≤ V.drew.heap.size := Nat.le_trans hbr.size hBV.size
        clear hTV b2 b4 y1 y2 z1 z2 zu
        have ix0 : (0 : Int) ≤ (lag : Int) + (k : Int) := by omega
        have ix1 : (lag : Int) + (k : Int) < (samples.length : Int) := by omega
        have hwl : IntKind.i64.wrap ((lag : Int) + (k : Int)) = (lag : Int) + (k : Int) := by simp (disch := omega) only [IntWalk.i64_in]
        have htn : ((lag : Int) + (k : Int)).toNat = lag + k := by omega
        have hcu : Hid (∀ v, CI v (ga, -gb) → CI v (turnG j)) := fun v h => by rw [← hcj]; exact h
        have hkM : Hid ((k : Int) * 2000000 + 2000000 ≤ 4503599627370496) := (by omega : (k : Int) * 2000000 + 2000000 ≤ 4503599627370496)
        go_region_held3 (fun w' => w'.cell? ⟨w.heap.size, 2, none⟩ = some (.slice (some ⟨bA, offA, none⟩) samples.length cA) ∧ w'.cell? ⟨wr.heap.size, 0, none⟩ = some (.int .i64 ga) ∧ w'.cell? ⟨wr.heap.size, 1, none⟩ = some (.int .i64 gb) ∧
            w'.cell? ⟨bA, offA + (lag + k) * 2, none⟩ = some (.int .i64 sa) ∧ w'.cell? ⟨bA, offA + (lag + k) * 2 + 1, none⟩ = some (.int .i64 sb) ∧ Below W.heap.size W w')
          (first | with_reducible exact hold5_drew HV.out | with_reducible exact HA.out | with_reducible exact HD.out)
          (first
            | (go_at_call 83; have _g := hvc; refine (number_c sa sb _ (by omega) (by omega)).mono ?_; rintro e wd ⟨⟨vd, rfl, hvd⟩, hbd⟩; have HD := hide (hold5_bel HA.out hbd (Nat.le_trans hz0 hba.size)); obtain ⟨⟨r1, hr1, q1⟩, m1⟩ := CI.turnMul hvd (hcu.out _ hvc) hj hle.out (by omega); obtain ⟨⟨r2, hr2, q2⟩, m2⟩ := CI.add hcs q1 hgs m1 hkM.out)
            | (go_at_call 83; refine (number_c ga gb _ (by omega) (by omega)).mono ?_; rintro e wa ⟨⟨va, rfl, hva⟩, hba⟩; have HA := hide (hold5_bel (hold5_drew HV.out) hba hz0))
            | (go_at_call 82; refine (conjugate_c va ga gb hva _).mono ?_; rintro e wc ⟨⟨vc, rfl, hvc⟩, rfl⟩))
        go_wp2_with fail
        go_roundw
        case rel =>
          refine ⟨k + 1, by omega, by go_num, ?_, ?_, ?_, HD.out.2.2.2.2.2⟩
          · rw [HM.out]
          · rw [HS.out, hcj]; exact q2
          · rw [HS.out, hcj]
            have e : ((k + 1 : Nat) : Int) * 2000000 = (k : Int) * 2000000 + 2000000 := by rw [Int.natCast_succ, Int.add_mul, Int.one_mul]
            rw [e]; exact m2
        case measure => simp [intOf]; omega
      · have hus' : us[lag + k] = false := by simpa using hus
        rw [hus'] at zu hgd
        have HM : Hid (compM us lag (k + 1) = compM us lag k + 1) := compM_miss hgd
        have HS : Hid (compS us samples wave lag (k + 1) = compS us samples wave lag k) := compS_miss hgd
        clear hus hgd hgw hwt
        generalize compM us lag k = mk at HM hmk
        generalize compS us samples wave lag k = sk at HS hcs hgs
        go_wp2
        go_roundw
        case rel =>
          refine ⟨k + 1, by omega, by go_num, ?_, ?_, ?_, hbr.alloc hbr.size _⟩
          · rw [HM.out]; go_num
          · rw [HS.out]; exact hcs
          · rw [HS.out]
            have e : ((k + 1 : Nat) : Int) * 2000000 = (k : Int) * 2000000 + 2000000 := by rw [Int.natCast_succ, Int.add_mul, Int.one_mul]
            simp only [gle] at hgs ⊢
            omega
        case measure => simp [intOf]; omega
    · obtain rfl : k = wave.length := by omega
      have hRr : Blk wr p 47 _ := hR.bel hbr
      have d0 := hRr.cell 0
      have d1 := hRr.cell 1
      simp only [List.getElem?_cons_zero, List.getElem?_cons_succ] at d0 d1
      have k0 := hRr.frozen 0
      have k1 := hRr.frozen 1
      have hbd : wave.length ≤ 1000 := by omega
      obtain ⟨mk, hmk⟩ : ∃ mk, compM us lag wave.length = mk := ⟨_, rfl⟩
      obtain ⟨⟨sa, sb⟩, hsk⟩ : ∃ sk, compS us samples wave lag wave.length = sk := ⟨_, rfl⟩
      rw [hsk] at hcs hgs
      rw [hmk]
      have HR : Hid (compM us lag wave.length = mk ∧ compS us samples wave lag wave.length = (sa, sb)) := ⟨hmk, hsk⟩
      clear hmk hsk
      obtain ⟨g1, g2, g3, g4⟩ := hgs
      dsimp only at g1 g2 g3 g4
      go_wp2_with (first | (go_at_call 44; refine (gauss_c _ sa sb hcs _ (by omega) (by omega)).mono ?_; rintro e w3 ⟨rfl, hb3⟩; have hR3 := hRr.bel hb3; have e0 := hR3.cell 0; have e1 := hR3.cell 1; have f0 := hR3.frozen 0; have f1 := hR3.frozen 1; simp only [List.getElem?_cons_zero, List.getElem?_cons_succ] at e0 e1))
      obtain ⟨WE, hWE⟩ : ∃ WE, (w3.setCell ⟨p, 0, none⟩ (.int .i64 sa)).setCell ⟨p, 1, none⟩ (.int .i64 sb) = WE := ⟨_, rfl⟩
      rw [hWE]
      have hE : Blk WE p 47 [.int .i64 sa, .int .i64 sb] := by rw [← hWE]; exact (hR3.set_ 0 _).set_ 1 _
      have hBE : Below w.heap.size w WE := by
        have hX : Below w.heap.size w w3 := tr hbw hb3 hbw.size
        rw [← hWE]
        exact (hX.setCell (by show w.heap.size ≤ p; omega) _).setCell (by show w.heap.size ≤ p; omega) _
      have g0 := hE.cell 0
      have g1 := hE.cell 1
      simp only [List.getElem?_cons_zero, List.getElem?_cons_succ] at g0 g1
      clear hWE
      try simp only [Exit.inBlock, Exit.then]
      refine bodyPost_ret (by simp [results, Tryd.results64, go_sem, g0, g1]; try rfl) rfl ?_
      exact ⟨by rw [HR.out.1, HR.out.2], hBE⟩
end Go.Proofs.YtnigmdkhecblnaaDoor

/- Contracts: new lines. -/
namespace Go.Proofs.YtnigmdkhecblnaaDoor
open Go.RowKit
set_option maxRecDepth 100000

theorem gs_zeros (n : Nat) : gs (List.replicate n (0, 0)) = List.replicate (n * 2) (.int .i64 0) := gs_replicate n
theorem ints_zeros (n : Nat) : ints (List.replicate n 0) = List.replicate n (.int .i64 0) := by simp [ints]

theorem new3 (w : World) (t1 t2 t3 : TypeId) (l1 l2 l3 : List Value) :
    ∃ W, (((w.alloc (.cells l1.toArray t1)).alloc (.cells l2.toArray t2)).alloc (.cells l3.toArray t3)).drew = W ∧ Blk W w.heap.size t1 l1 ∧ Blk W (w.heap.size + 1) t2 l2 ∧ Blk W (w.heap.size + 1 + 1) t3 l3 ∧ Below w.heap.size w W := by
  refine ⟨_, rfl, ?_, ?_, ?_, ((((Below.refl _ _).alloc (Nat.le_refl _) _).alloc (by simp) _).alloc (by simp; omega) _).drew⟩
  · refine Blk.below (B := w.heap.size + 1) (Blk.new w t1 l1) ?_ (by omega)
    exact (((Below.refl _ _).alloc (by simp) _).alloc (by simp) _).drew
  · have h0 := Blk.new (w.alloc (.cells l1.toArray t1)) t2 l2
    rw [show (w.alloc (.cells l1.toArray t1)).heap.size = w.heap.size + 1 from by simp] at h0
    refine Blk.below (B := w.heap.size + 2) h0 ?_ (by omega)
    exact ((Below.refl _ _).alloc (by simp) _).drew
  · have h0 := Blk.new ((w.alloc (.cells l1.toArray t1)).alloc (.cells l2.toArray t2)) t3 l3
    rw [show ((w.alloc (.cells l1.toArray t1)).alloc (.cells l2.toArray t2)).heap.size = w.heap.size + 1 + 1 from by simp] at h0
    exact h0.drewN 1

theorem newLine_c (n : Nat) (w : World) (hn : n ≤ 1000) :
    Calls Tryd.prog 63 #[.int .i64 n] w fun r w' => ∃ a b : Nat, r = .returned (.agg #[.slice (some ⟨a, 0, none⟩) n n, .slice (some ⟨b, 0, none⟩) n n]) ∧ a ≠ b ∧ w.heap.size ≤ a ∧ w.heap.size ≤ b ∧
      Blk w' a 47 (gs (List.replicate n (0, 0))) ∧ Blk w' b 3 (ints (List.replicate n 0)) ∧ Below w.heap.size w w' := by
  obtain ⟨i0, hi, iz0, iz1, iz2⟩ := info_parts Tryd.info76
  obtain ⟨i1, hj, jz0, jz1, jz2⟩ := info_parts Tryd.info3
  have hm1 : ∀ W, (Instr.makeSlice 22 (.int .i64 (n : Int)) (.int .i64 (n : Int))).run Tryd.prog W = .ok (.slice (some ⟨W.heap.size, 0, none⟩) n n) (W.alloc (.cells (gs (List.replicate n (0, 0))).toArray 47)) := fun W => by
    have h1 := run_make_rowN (P := Tryd.prog) 22 47 i0 _ Tryd.underlying22 hi iz0 .i64 .i64 n n (Nat.le_refl _) (by rw [iz2]; omega) (by omega) W
    have h2 := madeCells_g n
    rw [iz1] at h1
    rw [h1]
    congr 3
    rw [← h2]
  have hm2 : ∀ W, (Instr.makeSlice 23 (.int .i64 (n : Int)) (.int .i64 (n : Int))).run Tryd.prog W = .ok (.slice (some ⟨W.heap.size, 0, none⟩) n n) (W.alloc (.cells (ints (List.replicate n 0)).toArray 3)) := fun W => by
    have h1 := run_make_rowN (P := Tryd.prog) 23 3 i1 _ Tryd.underlying23 hj jz0 .i64 .i64 n n (Nat.le_refl _) (by rw [jz2]; omega) (by omega) W
    have h2 := madeCells_one (.int .i64 0) rfl n
    rw [jz1] at h1
    rw [h1]
    congr 3
    rw [ints_zeros, ← h2]
  go_enter Tryd.func63, Tryd.ntmps63
  go_upto_region 1 with fail
  go_region_held3 (fun _ => True) (trivial) (fail)
  · obtain ⟨W, hW, B1, B2, B3, hB⟩ := new3 w 73 47 3 [.slice (some ⟨w.heap.size + 1, 0, none⟩) n n, .slice (some ⟨w.heap.size + 1 + 1, 0, none⟩) n n] (gs (List.replicate n (0, 0))) (ints (List.replicate n 0))
    go_wp2_with fail
    rw [hW]
    have g0 := B1.cell 0
    have g1 := B1.cell 1
    simp only [List.getElem?_cons_zero, List.getElem?_cons_succ] at g0 g1
    clear hW
    try simp only [Exit.inBlock, Exit.then]
    refine bodyPost_ret (by simp [results, Tryd.results63, go_sem, g0, g1]; try rfl) rfl ?_
    exact ⟨_, _, rfl, by omega, by omega, by omega, B2, B3, hB⟩
  · obtain ⟨W, hW, B1, B2, B3, hB⟩ := new3 w 73 3 47 [.slice (some ⟨w.heap.size + 1 + 1, 0, none⟩) n n, .slice (some ⟨w.heap.size + 1, 0, none⟩) n n] (ints (List.replicate n 0)) (gs (List.replicate n (0, 0)))
    go_wp2_with fail
    rw [hW]
    have g0 := B1.cell 0
    have g1 := B1.cell 1
    simp only [List.getElem?_cons_zero, List.getElem?_cons_succ] at g0 g1
    clear hW
    try simp only [Exit.inBlock, Exit.then]
    refine bodyPost_ret (by simp [results, Tryd.results63, go_sem, g0, g1]; try rfl) rfl ?_
    exact ⟨_, _, rfl, by omega, by omega, by omega, B3, B2, hB⟩
end Go.Proofs.YtnigmdkhecblnaaDoor

