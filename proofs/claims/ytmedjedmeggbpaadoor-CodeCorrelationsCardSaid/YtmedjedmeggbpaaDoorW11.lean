/- Contracts: harmonics of blocks; complex numbers that are whole, multiplied and added. -/
import Derived.Test.YtmedjedmeggbpaaDoorW10
namespace Go.Proofs.YtmedjedmeggbpaaDoor
open Go.RowKit
set_option maxRecDepth 100000

def gmul (g h : Int × Int) : Int × Int := (g.1 * h.1 - g.2 * h.2, g.1 * h.2 + g.2 * h.1)
def gadd (g h : Int × Int) : Int × Int := (g.1 + h.1, g.2 + h.2)
/-- Both parts are at most M. -/
def gle (M : Int) (g : Int × Int) : Prop := -M ≤ g.1 ∧ g.1 ≤ M ∧ -M ≤ g.2 ∧ g.2 ≤ M

theorem CI.mulTurn {v u : Value} {g : Int × Int} {k : Nat} {M : Int} (hv : CI v g) (hu : CI u (turnG k)) (hk : k < 4) (hg : gle M g) (hM : M ≤ 4503599627370496) :
    (∃ r, (∀ P W t, Sem.run P (Go.binOp .mul t v u) W = .ok r W) ∧ CI r (gmul g (turnG k))) ∧ gle M (gmul g (turnG k)) := by
  obtain ⟨a, b⟩ := g
  obtain ⟨x, y, rfl, hx, hy⟩ := hv
  obtain ⟨z, t, rfl, hz, ht⟩ := hu
  obtain ⟨g1, g2, g3, g4⟩ := hg
  dsimp only at g1 g2 g3 g4 hx hy
  have e : k = 0 ∨ k = 1 ∨ k = 2 ∨ k = 3 := by omega
  have key : ∀ c d : Int, FI z c → FI t d → (a * c).natAbs < 9007199254740992 → (b * d).natAbs < 9007199254740992 → (a * d).natAbs < 9007199254740992 → (b * c).natAbs < 9007199254740992 → (a * c - b * d).natAbs < 9007199254740992 → (a * d + b * c).natAbs < 9007199254740992 →
      ∃ r, (∀ P W t', Sem.run P (Go.binOp .mul t' (.complex .f64 x y) (.complex .f64 z t)) W = .ok r W) ∧ CI r (a * c - b * d, a * d + b * c) := by
    intro c d hc hd n1 n2 n3 n4 n5 n6
    obtain ⟨r1, m1, f1⟩ := hx.mul hc n1
    obtain ⟨r2, m2, f2⟩ := hy.mul hd n2
    obtain ⟨r3, m3, f3⟩ := f1.sub f2 n5
    obtain ⟨r4, m4, f4⟩ := hx.mul hd n3
    obtain ⟨r5, m5, f5⟩ := hy.mul hc n4
    obtain ⟨r6, m6, f6⟩ := f4.add f5 n6
    refine ⟨.complex .f64 r3 r6, fun P W t' => run_complex_mul W t' _ _ _ _ _ _ ?_, _, _, rfl, f3, f6⟩
    simp [cMulBits, m1, m2, m3, m4, m5, m6]
  rcases e with rfl | rfl | rfl | rfl
  · refine ⟨key 1 0 hz ht ?_ ?_ ?_ ?_ ?_ ?_, ?_⟩
    all_goals simp [gle, gmul, turnG, tabL]
    all_goals omega
  · refine ⟨key 0 1 hz ht ?_ ?_ ?_ ?_ ?_ ?_, ?_⟩
    all_goals simp [gle, gmul, turnG, tabL]
    all_goals omega
  · refine ⟨key (-1) 0 hz ht ?_ ?_ ?_ ?_ ?_ ?_, ?_⟩
    all_goals simp [gle, gmul, turnG, tabL]
    all_goals omega
  · refine ⟨key 0 (-1) hz ht ?_ ?_ ?_ ?_ ?_ ?_, ?_⟩
    all_goals simp [gle, gmul, turnG, tabL]
    all_goals omega

theorem CI.add {v u : Value} {g h : Int × Int} {M N : Int} (hv : CI v g) (hu : CI u h) (hg : gle M g) (hh : gle N h) (hM : M + N ≤ 4503599627370496) :
    (∃ r, (∀ P W t, Sem.run P (Go.binOp .add t v u) W = .ok r W) ∧ CI r (gadd g h)) ∧ gle (M + N) (gadd g h) := by
  obtain ⟨x, y, rfl, hx, hy⟩ := hv
  obtain ⟨z, t, rfl, hz, ht⟩ := hu
  obtain ⟨g1, g2, g3, g4⟩ := hg
  obtain ⟨h1, h2, h3, h4⟩ := hh
  obtain ⟨r1, m1, f1⟩ := hx.add hz (by omega)
  obtain ⟨r2, m2, f2⟩ := hy.add ht (by omega)
  refine ⟨⟨.complex .f64 r1 r2, fun P W t' => run_complex_sum W .add (.inl rfl) t' .f64 _ _ _ _ _ _ ?_, _, _, rfl, f1, f2⟩, ?_⟩
  · simp [cSumBits, m1, m2]
  · simp only [gle, gadd]; omega

/-- The sum of the first numbers of a block, turned for a harmonic. -/
def harmN (l : List (Int × Int)) (n : Int) : Nat → Int × Int
  | 0 => (0, 0)
  | q + 1 => gadd (harmN l n q) (gmul (l.getD q (0, 0)) (turnG ((-n * q) % 4).toNat))

theorem CI.zero : CI (.complex .f64 0 0) (0, 0) := ⟨0, 0, rfl, FI.zero, FI.zero⟩

theorem harmonic_c (v0 v1 v2 v3 : Value) (g0 g1 g2 g3 : Int × Int) (n M : Int) (w : World) (hT : Tab w) (h0 : CI v0 g0) (h1 : CI v1 g1) (h2 : CI v2 g2) (h3 : CI v3 g3)
    (m0 : gle M g0) (m1 : gle M g1) (m2 : gle M g2) (m3 : gle M g3) (hM : M ≤ 1000000000) (hM0 : 0 ≤ M) (hn : -1000 ≤ n) (hn2 : n ≤ 1000) :
    Calls Tryd.prog 133 #[.agg #[v0, v1, v2, v3], .int .i64 n] w fun r w' => (∃ v, r = .returned v ∧ CI v (harmN [g0, g1, g2, g3] n 4)) ∧ Below w.heap.size w w' := by
  have HC : Hid (∀ k : Nat, k < 4 → ∃ v, (∀ W, Sem.run Tryd.prog (Instr.index 180 (.agg #[v0, v1, v2, v3]) (.int .i64 (k : Int))) W = .ok v W) ∧ CI v ([g0, g1, g2, g3].getD k (0, 0)) ∧ gle M ([g0, g1, g2, g3].getD k (0, 0))) := by
    intro k hk
    have e : k = 0 ∨ k = 1 ∨ k = 2 ∨ k = 3 := by omega
    rcases e with rfl | rfl | rfl | rfl
    · exact ⟨v0, fun W => by simp [Instr.index, go_sem], h0, m0⟩
    · exact ⟨v1, fun W => by simp [Instr.index, go_sem], h1, m1⟩
    · exact ⟨v2, fun W => by simp [Instr.index, go_sem], h2, m2⟩
    · exact ⟨v3, fun W => by simp [Instr.index, go_sem], h3, m3⟩
  clear h0 h1 h2 h3 m0 m1 m2 m3
  obtain ⟨L, hL⟩ : ∃ L, [g0, g1, g2, g3] = L := ⟨_, rfl⟩
  rw [hL] at HC ⊢
  clear hL
  go_enter Tryd.func133, Tryd.ntmps133
  go_upto_region 2 with fail
  generalize hW : w.alloc (.cells #[v0, v1, v2, v3] 180) = W
  have hB : Below w.heap.size w W := by rw [← hW]; exact (Below.refl _ _).alloc (Nat.le_refl _) _
  have hX : Blk W w.heap.size 180 [v0, v1, v2, v3] := by rw [← hW]; exact Blk.new w 180 [v0, v1, v2, v3]
  have hTW := hT.bel hB
  clear hW
  have c0 := hX.cell 0
  have c1 := hX.cell 1
  have c2 := hX.cell 2
  have c3 := hX.cell 3
  simp only [List.getElem?_cons_zero, List.getElem?_cons_succ] at c0 c1 c2 c3
  have hlt := hX.lt
  go_wp2
  clear c0 c1 c2 c3 hX
  go_loopw [5, 9] (fun s i wr => ∃ k : Nat, k ≤ 4 ∧ i = .int .i64 k ∧ CI s (harmN L n k) ∧ gle (k * M) (harmN L n k) ∧ Below W.heap.size W wr) (fun _ i _ => 4 - (intOf i).toNat)
  case atStart => exact ⟨0, by omega, rfl, CI.zero, by simp [gle, harmN], Below.refl _ _⟩
  case round =>
    obtain ⟨k, hk, rfl, hs, hgs, hbr⟩ := hrel
    have hTr := hTW.bel hbr
    by_cases hlt4 : k < 4
    · obtain ⟨vk, hix, hvk, hmk⟩ := HC.out k hlt4
      have HN : Hid (harmN L n (k + 1) = gadd (harmN L n k) (gmul (L.getD k (0, 0)) (turnG ((-n * k) % 4).toNat))) := rfl
      generalize L.getD k (0, 0) = gk at hvk hmk HN
      generalize harmN L n k = sk at hs hgs HN
      have hnk : -3000 ≤ -n * (k : Int) ∧ -n * (k : Int) ≤ 3000 := by
        have e : k = 0 ∨ k = 1 ∨ k = 2 ∨ k = 3 := by omega
        rcases e with rfl | rfl | rfl | rfl <;> simp <;> omega
      have hkM : Hid ((k : Int) * M + M ≤ 4503599627370496) := by
        have : (k : Int) * M ≤ 4 * 1000000000 := Int.mul_le_mul (by omega) hM hM0 (by omega)
        exact (by omega : (k : Int) * M + M ≤ 4503599627370496)
      have hk4 : (-n * (k : Int) % 4).toNat < 4 := by omega
      go_wp2_with (first | (go_at_call 150; refine (powerOfI_c _ _ hTr (by omega) (by omega)).mono ?_; rintro e w3 ⟨⟨vt, rfl, ht⟩, hb3⟩; obtain ⟨⟨r1, hr1, q1⟩, l1⟩ := CI.mulTurn hvk ht hk4 hmk (by omega); obtain ⟨⟨r2, hr2, q2⟩, l2⟩ := CI.add hs q1 hgs l1 hkM.out))
      have hb3' : Below W.heap.size W w3 := tr hbr hb3 hbr.size
      go_roundw
      case rel =>
        refine ⟨k + 1, by omega, by go_num, ?_, ?_, hb3'⟩
        · rw [HN.out]; exact q2
        · rw [HN.out]
          have e : ((k + 1 : Nat) : Int) * M = (k : Int) * M + M := by rw [Int.natCast_succ, Int.add_mul, Int.one_mul]
          rw [e]; exact l2
      case measure => simp [intOf]; omega
    · obtain rfl : k = 4 := by omega
      go_wp2
      go_ret
      exact ⟨⟨_, rfl, hs⟩, tr hB hbr (Nat.le_of_lt hlt)⟩
end Go.Proofs.YtmedjedmeggbpaaDoor
