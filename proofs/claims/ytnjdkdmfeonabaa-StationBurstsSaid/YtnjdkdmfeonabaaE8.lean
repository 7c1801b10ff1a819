/- Contracts: the check of the string of one byte 0; the laws' own examples. -/
import Derived.Test.YtnjdkdmfeonabaaE7
import Derived.ChangeKeysEq
set_option linter.unusedSimpArgs false
set_option linter.unusedVariables false
set_option linter.unusedSimpArgs false
set_option linter.unusedVariables false
namespace Go.Proofs.Ytnjdkdmfeonabaa
open Go.RowKit
set_option maxRecDepth 100000

theorem checkOf0_c (w : World) : Calls Try.prog 16 #[.string ⟨#[0]⟩] w fun r w' => r = .returned (.int .i64 57840) ∧ w = w' := by
  have x1 : Go.bits .xor .i64 131070 69665 = 61407 := by decide
  have x2 : Go.bits .xor .i64 122814 69665 = 53151 := by decide
  have x3 : Go.bits .xor .i64 106302 69665 = 36639 := by decide
  have x4 : Go.bits .xor .i64 73278 69665 = 3615 := by decide
  have x5 : ∀ h : 0 < (⟨#[0]⟩ : ByteArray).size, Go.bits .xor .i64 65535 (wrap64 (wrap64 (((⟨#[0]⟩ : ByteArray)[0]'h).toNat : Int) * 256)) = 65535 := by intro h; kernel_rfl
  go_enter Try.func16, Try.ntmps16
  go_wp2
  go_loop [3, 7] (fun c i => (c = .int .i64 65535 ∧ i = .int .i64 0) ∨ (c = .int .i64 57840 ∧ i = .int .i64 1)) (fun _ i => 1 - (intOf i).toNat)
  case atStart => exact .inl ⟨rfl, rfl⟩
  case round =>
    rcases hrel with ⟨rfl, rfl⟩ | ⟨rfl, rfl⟩
    · go_wp2
      clear x5
      go_loop [3, 17] (fun c i => ∃ k : Nat, k ≤ 8 ∧ i = .int .i64 k ∧ c = .int .i64 ([65535, 61407, 53151, 36639, 3615, 7230, 14460, 28920, 57840].getD k 0)) (fun _ i => 8 - (intOf i).toNat)
      case atStart => exact ⟨0, by omega, rfl, rfl⟩
      case round =>
        obtain ⟨k, hk, rfl, rfl⟩ := hrel
        rcases (by omega : k = 0 ∨ k = 1 ∨ k = 2 ∨ k = 3 ∨ k = 4 ∨ k = 5 ∨ k = 6 ∨ k = 7 ∨ k = 8) with rfl | rfl | rfl | rfl | rfl | rfl | rfl | rfl | rfl
        ·
          rw [show ([65535, 61407, 53151, 36639, 3615, 7230, 14460, 28920, 57840].getD (1 - 1) 0 : Int) = 65535 from rfl]
          go_wp2
          go_round
          case rel => exact ⟨1, by omega, by go_num, rfl⟩
          case measure => simp [intOf]
        ·
          rw [show ([65535, 61407, 53151, 36639, 3615, 7230, 14460, 28920, 57840].getD (2 - 1) 0 : Int) = 61407 from rfl]
          go_wp2
          go_round
          case rel => exact ⟨2, by omega, by go_num, rfl⟩
          case measure => simp [intOf]
        ·
          rw [show ([65535, 61407, 53151, 36639, 3615, 7230, 14460, 28920, 57840].getD (3 - 1) 0 : Int) = 53151 from rfl]
          go_wp2
          go_round
          case rel => exact ⟨3, by omega, by go_num, rfl⟩
          case measure => simp [intOf]
        ·
          rw [show ([65535, 61407, 53151, 36639, 3615, 7230, 14460, 28920, 57840].getD (4 - 1) 0 : Int) = 36639 from rfl]
          go_wp2
          go_round
          case rel => exact ⟨4, by omega, by go_num, rfl⟩
          case measure => simp [intOf]
        ·
          rw [show ([65535, 61407, 53151, 36639, 3615, 7230, 14460, 28920, 57840].getD (5 - 1) 0 : Int) = 3615 from rfl]
          go_wp2
          go_round
          case rel => exact ⟨5, by omega, by go_num, rfl⟩
          case measure => simp [intOf]
        ·
          rw [show ([65535, 61407, 53151, 36639, 3615, 7230, 14460, 28920, 57840].getD (6 - 1) 0 : Int) = 7230 from rfl]
          go_wp2
          go_round
          case rel => exact ⟨6, by omega, by go_num, rfl⟩
          case measure => simp [intOf]
        ·
          rw [show ([65535, 61407, 53151, 36639, 3615, 7230, 14460, 28920, 57840].getD (7 - 1) 0 : Int) = 14460 from rfl]
          go_wp2
          go_round
          case rel => exact ⟨7, by omega, by go_num, rfl⟩
          case measure => simp [intOf]
        ·
          rw [show ([65535, 61407, 53151, 36639, 3615, 7230, 14460, 28920, 57840].getD (8 - 1) 0 : Int) = 28920 from rfl]
          go_wp2
          go_round
          case rel => exact ⟨8, by omega, by go_num, rfl⟩
          case measure => simp [intOf]
        · go_wp2
          go_round
          case rel => exact .inr ⟨rfl, by go_num⟩
          case measure => simp [intOf]
    · go_wp2
      go_ret
      exact ⟨rfl, rfl⟩

theorem checkOfZero_c (w : World) : Calls Try.prog 6 #[.string ⟨#[0]⟩] w fun r w' => r = .returned (.tuple #[.int .i64 57840, .int .i64 0]) ∧ w = w' := by
  have hS : Hid (∀ W, Calls Try.prog 15 #[.string ⟨#[0]⟩] W fun r w' => r = .returned (.int .i64 0) ∧ W = w') := by
    intro W
    go_enter Try.func15, Try.ntmps15
    go_wp2_with (first | (go_at_call 26; refine (errorIf_c _ _ _).mono ?_; rintro e_ w_ ⟨rfl, rfl⟩))
    go_ret
    exact ⟨rfl, rfl⟩
  go_enter Try.func6, Try.ntmps6
  go_wp2_with (first
    | (go_at_call 15; refine (hS.out _).mono ?_; rintro e_ w_ ⟨rfl, rfl⟩)
    | (go_at_call 16; refine (checkOf0_c _).mono ?_; rintro e_ w_ ⟨rfl, rfl⟩))
  go_ret2
  exact ⟨rfl, rfl⟩

/-- The exchanges and the pairs of the examples. -/
def exL : List PT := [(100, 505, 110), (200, 600, 204)]
def netL : List G := [(0, 1), (1, 2), (2, 3), (0, 3)]
theorem exchanges_c (w : World) : Calls Try.prog 9 #[] w fun r w' => (∃ A, r = .returned (.slice A 2 2) ∧ Rd w' A (ps exL)) ∧ Below w.heap.size w w' := by
  go_enter Try.func9, Try.ntmps9
  go_wp2
  go_ret
  exact ⟨⟨_, rfl, (Blk.new w 57 (ps exL)).rd (List.prefix_refl _)⟩, alloc_bel _ _⟩
theorem net_c (w : World) : Calls Try.prog 12 #[] w fun r w' => (∃ A, r = .returned (.agg #[.int .i64 4, .slice A 4 4]) ∧ Rd w' A (gs netL)) ∧ Below w.heap.size w w' := by
  obtain ⟨WE, hWE⟩ : ∃ WE, (w.alloc (.cells #[.int .i64 4, .slice (some ⟨w.heap.size + 1, 0, none⟩) 4 4] 45)).alloc (.cells #[.int .i64 0, .int .i64 1, .int .i64 1, .int .i64 2, .int .i64 2, .int .i64 3, .int .i64 0, .int .i64 3] 63) = WE := ⟨_, rfl⟩
  have h2 := two_new w 45 63 [.int .i64 4, .slice (some ⟨w.heap.size + 1, 0, none⟩) 4 4] (gs netL)
  have hE : Blk WE w.heap.size 45 [.int .i64 4, .slice (some ⟨w.heap.size + 1, 0, none⟩) 4 4] := by rw [← hWE]; exact h2.1
  have hF : Blk WE (w.heap.size + 1) 63 (gs netL) := by rw [← hWE]; exact h2.2.1
  have hB : Below w.heap.size w WE := by rw [← hWE]; exact h2.2.2
  have HW := hide hWE
  clear hWE h2
  go_enter Try.func12, Try.ntmps12
  go_wp2
  rw [HW.out]
  have c0 := hE.cell 0; have c1 := hE.cell 1; simp only [List.getElem?_cons_zero, List.getElem?_cons_succ] at c0 c1
  exact bodyPost_ret (v := .agg #[.int .i64 4, .slice (some ⟨w.heap.size + 1, 0, none⟩) 4 4]) (by simp [results, Try.results12, go_sem, c0, c1]; try rfl) rfl ⟨⟨_, rfl, hF.rd (List.prefix_refl _)⟩, hB⟩

theorem Try.underPair : Try.prog.underlying 63 = some (.array 2 3) := by kernel_rfl
theorem Try.cellsInt : Try.prog.cellsOf 3 = 1 := by kernel_rfl
theorem eql_pair (a b c d : Int) (w : World) : (binOp .eql 63 (.agg #[.int .i64 a, .int .i64 b]) (.agg #[.int .i64 c, .int .i64 d])).run Try.prog w = .ok (.bool (decide ((c, d) = (a, b)))) w := by
  obtain ⟨i0, hi, iz0, iz1, iz2⟩ := info_parts Try.infoN
  rw [run_eql_struct, run_equalIn_array w 9999 _ _ Try.underPair hi]
  simp only [show List.range 2 = [0, 1] from rfl, Op.eqItems, Try.cellsInt]
  by_cases h1 : a = c
  · by_cases h2 : b = d
    · simp [h1, h2, part, go_sem]
    · have h3 : ¬ d = b := fun e => h2 e.symm
      simp [h1, h2, h3, part, go_sem]
  · have h3 : ¬ c = a := fun e => h1 e.symm
    simp [h1, h3, part, go_sem]
/-- Pairs: which one is the first that equals a pair. -/
theorem index_c (l : List G) (A : Option Addr) (c : Nat) (a b : Int) (w : World) (hr : Rd w A (gs l)) (hl : l.length ≤ 1000) :
    Calls Try.prog 51 #[.slice A l.length c, .agg #[.int .i64 a, .int .i64 b]] w fun r w' => (∃ i : Int, r = .returned (.int .i64 i) ∧ decide (0 ≤ i) = decide ((a, b) ∈ l)) ∧ Below w.heap.size w w' := by
  have hY0 := Blk.new w 63 [.int .i64 a, .int .i64 b]
  have hB0 := alloc_bel w (.cells #[.int .i64 a, .int .i64 b] 63)
  have hr0 := hr.alloc (.cells #[.int .i64 a, .int .i64 b] 63)
  obtain ⟨W, hW⟩ : ∃ W, w.alloc (.cells #[.int .i64 a, .int .i64 b] 63) = W := ⟨_, rfl⟩
  have HW := hide hW
  rw [hW] at hY0 hB0 hr0
  clear hW
  go_enter Try.func51, Try.ntmps51
  go_wp2
  rw [HW.out]
  go_loopw [8] (fun i wr => ∃ k : Nat, k ≤ l.length ∧ i = .int .i64 k ∧ Below W.heap.size W wr ∧ Hid (∀ j (h : j < l.length), j < k → l[j] ≠ (a, b))) (fun i _ => l.length - (intOf i).toNat)
  case atStart => exact ⟨0, Nat.zero_le _, rfl, Below.refl _ _, fun _ _ h => by omega⟩
  case round =>
    obtain ⟨k, hk, rfl, hb, h0⟩ := hrel
    have hYr := hY0.bel hb
    have c0 := hYr.cell 0; have c1 := hYr.cell 1; simp only [List.getElem?_cons_zero, List.getElem?_cons_succ] at c0 c1
    have hBr := bel_tr hB0 hB0.size hb
    by_cases hlt : k < l.length
    · obtain ⟨g, off, rfl, hblt, x0, x1⟩ := (hr0.bel hb).g_at hlt
      by_cases hz : l[k] = (a, b)
      · have HM : Hid ((a, b) ∈ l) := by show _ ∈ l; rw [← hz]; exact List.getElem_mem hlt
        rw [hz] at x0 x1
        have hq : ∀ w, (binOp .eql 63 (.agg #[.int .i64 a, .int .i64 b]) (.agg #[.int .i64 a, .int .i64 b])).run Try.prog w = .ok (.bool true) w := fun w => by rw [eql_pair, decide_eq_true rfl]
        clear hz
        go_wp2
        go_quiet (fail)
        go_wp2
        go_ret
        exact ⟨⟨k, rfl, by have := HM.out; simp [this]⟩, below_drewN hBr _⟩
      · have H1 : Hid (∀ j (h : j < l.length), j < k + 1 → l[j] ≠ (a, b)) := fun j h hj => by
          by_cases e : j = k
          · subst e; exact hz
          · exact h0.out j h (by omega)
        generalize l[k] = g' at x0 x1 hz
        obtain ⟨ga, gb⟩ := g'
        dsimp only at x0 x1
        have hq : ∀ w, (binOp .eql 63 (.agg #[.int .i64 a, .int .i64 b]) (.agg #[.int .i64 ga, .int .i64 gb])).run Try.prog w = .ok (.bool false) w := fun w => by rw [eql_pair, decide_eq_false hz]
        clear hz
        go_wp2
        go_quiet (fail)
        go_wp2
        go_roundw
        case rel => exact ⟨k + 1, by omega, by go_num, below_drewN hb _, H1⟩
        case measure => simp [intOf]; omega
    · obtain rfl : k = l.length := by omega
      have HM : Hid (¬ (a, b) ∈ l) := fun h => by
        obtain ⟨j, hj, e⟩ := List.getElem_of_mem h
        exact h0.out j hj hj e
      go_wp2
      go_ret
      exact ⟨⟨-1, rfl, by have := HM.out; simp [this]⟩, hBr⟩
theorem contains_c (l : List G) (A : Option Addr) (c : Nat) (a b : Int) (w : World) (hr : Rd w A (gs l)) (hl : l.length ≤ 1000) :
    Calls Try.prog 49 #[.slice A l.length c, .agg #[.int .i64 a, .int .i64 b]] w fun r w' => r = .returned (.bool (decide ((a, b) ∈ l))) ∧ Below w.heap.size w w' := by
  have HI := hide (fun W h => index_c l A c a b W h hl)
  go_enter Try.func49, Try.ntmps49
  go_wp2_with (first | (go_at_call 51; refine (HI.out _ (hr.alloc _)).mono ?_; rintro e_ w1 ⟨⟨i, rfl, hi⟩, hb1⟩))
  go_ret
  exact ⟨by rw [← hi]; rfl, bel_tr (alloc_bel _ _) (by simp) hb1⟩
end Go.Proofs.Ytnjdkdmfeonabaa
