/- Contracts: the point of a frequency behind the first one. -/
import Derived.Test.YtdeehodekilaiaaU2
set_option linter.unusedSimpArgs false
set_option linter.unusedVariables false
namespace Go.Proofs.Ytdeehodekilaiaa
open Go.RowKit
set_option maxRecDepth 100000

set_option maxHeartbeats 2000000 in
theorem traceOf1_succ (base : Int) (A : Option Addr) (c : Nat) (l : List G) (F : Option Addr) (fc : Nat) (fs : List Int) (w0 : World) (p Q : Nat) (j : Nat) (f : Int) (W : World) (hI : TrI base A c l F fc fs w0 p Q (j + 1) W) (hl : l.length ≤ 1000) (hk : j + 1 < fs.length) (hfs : fs.length ≤ 1000) (hf : fs.getD (j + 1) 0 = f)
    (hA : gs l ≠ [] → ∀ b off, A = some ⟨b, off, none⟩ → b ≠ Q) (hF : ints fs ≠ [] → ∀ b off, F = some ⟨b, off, none⟩ → b ≠ Q) :
    Calls Try.prog 37 (#[.int .i64 ((j : Int) + 1), .int .i64 f] ++ #[.pointer (some ⟨p, 0, none⟩), .pointer (some ⟨Q + 1, 0, none⟩), .pointer (some ⟨p + 1, 0, none⟩)]) W fun r w' => r = .returned (.int .i64 (trfE base l fs (j + 1) f)) ∧ TrI base A c l F fc fs w0 p Q (j + 2) w' := by
  have HR : Hid (trfE base l fs (j + 1) f = firstE [freqE f, errIf (decide (f ≤ fs.getD j 0)) 9, (virtR base l f).2, errIf (decide (20000 < (virtR base l f).1.2)) 22]) := by show _ = _; simp [trfE]
  obtain ⟨fb, fo, rfl, _, _⟩ := hI.rf.int_at (k := j) (by omega)
  have i1 : (0 : Int) ≤ (j : Int) + 1 := by omega
  have i2 : (j : Int) + 1 < (fs.length : Int) := by omega
  have i3 : (0 : Int) ≤ (j : Int) := by omega
  have i4 : (j : Int) < (fs.length : Int) := by omega
  have i5 : ((j : Int) + 1).toNat = j + 1 := by omega
  have v1 : IntKind.i64.wrap ((j : Int) + 1 - 1) = (j : Int) := by rw [Int.add_sub_cancel]; simp (disch := omega) only [IntWalk.i64_in]
  have v2 : IntKind.i64.wrap (j : Int) = (j : Int) := by simp (disch := omega) only [IntWalk.i64_in]
  have v3 : decide ((0 : Int) < (j : Int) + 1) = true := decide_eq_true (by omega)
  rw [show (#[.int .i64 ((j : Int) + 1 : Int), .int .i64 f] ++ #[.pointer (some ⟨p, 0, none⟩), .pointer (some ⟨Q + 1, 0, none⟩), .pointer (some ⟨p + 1, 0, none⟩)] : Array Value) = #[.int .i64 ((j : Int) + 1 : Int), .int .i64 f, .pointer (some ⟨p, 0, none⟩), .pointer (some ⟨Q + 1, 0, none⟩), .pointer (some ⟨p + 1, 0, none⟩)] from rfl]
  obtain ⟨⟨x, y⟩, hxy⟩ : ∃ g, (virtR base l f).1 = g := ⟨_, rfl⟩
  have HV : Hid (∀ W, Rd W A (gs l) → Calls Try.prog 17 #[.agg #[.int .i64 base, .slice A l.length c], .int .i64 f] W fun r w' => r = .returned (.tuple #[.agg #[.int .i64 x, .int .i64 y], .int .i64 (virtR base l f).2]) ∧ Below W.heap.size W w') := fun W h => by
    have := virtualAt_c base f A c l W h hl
    rw [hxy] at this
    exact this
  have HXY := hide hxy
  clear hxy
  generalize (virtR base l f).2 = ve at HV HR
  have hK1 := hI.b1
  have hK2 := hI.b2
  have hK3 := hI.b3
  have hra := hI.ra
  have c0 := hK1.cell 0; have c1 := hK1.cell 1; simp only [List.getElem?_cons_zero, List.getElem?_cons_succ] at c0 c1
  have c2 := hK2.cell 0
  have c3 := hK3.cell 0
  simp only [List.getElem?_cons_zero] at c2 c3
  have z1 := hK1.lt
  have z2 := hK2.lt
  have z3 := hK3.lt
  have zQ := hI.lt
  go_enter Try.func37, Try.ntmps37
  go_upto_region 2 with (first | (go_at_call 17; refine (HV.out _ hra).mono ?_; rintro e w1 ⟨rfl, hb1⟩))
  obtain ⟨g, hg⟩ : ∃ g, w1.heap.size = g := ⟨_, rfl⟩
  have hbA : Below w1.heap.size w1 (w1.alloc (.cells #[.int .i64 x, .int .i64 y] 51)) := alloc_bel _ _
  have hI2 := (hI.next hb1).next hbA
  have hG2 : Blk (w1.alloc (.cells #[.int .i64 x, .int .i64 y] 51)) g 51 [.int .i64 x, .int .i64 y] := by rw [← hg]; exact Blk.new w1 _ [_, _]
  clear hbA c0 c1 c2 c3 hK1 hK2 hK3 hra
  have hgQ : Q + 1 < g := by have := (hI.next hb1).b2.lt; omega
  rw [hg]
  generalize (w1.alloc (.cells #[.int .i64 x, .int .i64 y] 51)) = W2 at hI2 hG2 ⊢
  clear hb1 hg z1 z2 z3 hI
  have hK2 := hI2.b2
  have hK3 := hI2.b3
  have c2 := hK2.cell 0
  simp only [List.getElem?_cons_zero] at c2
  have g0 := hG2.cell 0; have g1 := hG2.cell 1; simp only [List.getElem?_cons_zero, List.getElem?_cons_succ] at g0 g1
  have z2 := hK2.lt
  have z4 := hG2.lt
  obtain ⟨q0, q1, q2⟩ := ps_at (l := mixL base l fs (j + 1)) (k := (j + 1)) (by simpa using hk)
  have t0 := (hI2.bq.cell _).trans q0
  have t1 := (hI2.bq.cell _).trans q1
  have t2 := (hI2.bq.cell _).trans q2
  have f0 := hI2.bq.frozen ((j + 1) * 3)
  have f1 := hI2.bq.frozen ((j + 1) * 3 + 1)
  have f2 := hI2.bq.frozen ((j + 1) * 3 + 2)
  generalize (mixL base l fs (j + 1))[(j + 1)]'(by simpa using hk) = pt at q0 q1 q2 t0 t1 t2
  clear q0 q1 q2
  have zq := hI2.bq.lt
  have hS := hI2.store hk hA hF hf HXY.out
  try simp only [Nat.zero_mul, Nat.zero_add] at t0 t1 t2 f0 f1 f2 hS
  go_upto_region 3 with fail
  have hG3 := ((hG2.far (p := ⟨Q, (j + 1) * 3, none⟩) (by show g ≠ Q; omega) (.int .i64 f)).far (p := ⟨Q, (j + 1) * 3 + 1, none⟩) (by show g ≠ Q; omega) (.int .i64 x)).far (p := ⟨Q, (j + 1) * 3 + 2, none⟩) (by show g ≠ Q; omega) (.int .i64 y)
  try simp only [Nat.zero_mul, Nat.zero_add] at hG3
  generalize ((World.setCell _ _ (.int .i64 f)).setCell _ (.int .i64 x)).setCell _ (.int .i64 y) = W at hS hG3 ⊢
  clear t0 t1 t2 f0 f1 f2 g0 g1 hG2 c2 hK2 hK3 hI2 z2 z4 zq
  have y1 := hG3.cell 1
  simp only [List.getElem?_cons_zero, List.getElem?_cons_succ] at y1
  have z1 := hG3.lt
  have hK3 := hS.b3
  have c3 := hK3.cell 0
  simp only [List.getElem?_cons_zero] at c3
  have z3 := hK3.lt
  obtain ⟨fb', fo', e', hfb, x0⟩ := hS.rf.int_at (k := j) (by omega)
  cases e'
  rw [← getD_at (show j < fs.length by omega) 0] at x0
  generalize fs.getD j 0 = g0' at x0 HR
  have HR2 : Hid (trfE base l fs (j + 1) f = firstE [freqE f, errIf (decide (f ≤ g0')) 9, ve, errIf (decide (20000 < y)) 22]) := by show _ = _; rw [HR.out, HXY.out]
  clear HR HXY
  refine wp_region_held (S := fun w' => (∀ b o, b < W.heap.size → w'.cell? ⟨b, o, none⟩ = W.cell? ⟨b, o, none⟩) ∧ Below W.heap.size W w') (by kernel_rfl) ?_
  have hSd : (∀ b o, b < W.heap.size → W.drew.cell? ⟨b, o, none⟩ = W.cell? ⟨b, o, none⟩) ∧ Below W.heap.size W W.drew := kp (Below.refl _ _).drew
  change wpAnyH _ _ _ _ _ _ _ _ W.drew
  refine wpAnyH_take (i := 0) (v := ?_) rfl (by kernel_rfl) (by kernel_rfl) (by kernel_rfl) (fun _ _ _ h => h) (Or.inl ⟨by kernel_rfl, ?_⟩) (by assumption) ?_
  rotate_left 1
  · (intro w hSw; obtain ⟨hk1, hk2⟩ := hSw; go_simp <;> with_reducible rfl)
  simp only [Act.put, List.getElem_toArray, List.getElem_cons_zero, List.setIfInBounds_toArray, List.set_cons_zero, List.set_cons_succ]
  refine wpAnyH_take (i := 2) (v := ?_) rfl (by kernel_rfl) (by kernel_rfl) (by kernel_rfl) (fun _ _ _ h => h) (Or.inl ⟨by kernel_rfl, ?_⟩) (by assumption) ?_
  rotate_left 1
  · (intro w hSw; obtain ⟨hk1, hk2⟩ := hSw; go_simp <;> with_reducible rfl)
  simp only [Act.put, List.getElem_toArray, List.getElem_cons_zero, List.getElem_cons_succ, List.setIfInBounds_toArray, List.set_cons_zero, List.set_cons_succ]
  refine wpAnyH_take (i := 3) (v := ?_) rfl (by kernel_rfl) (by kernel_rfl) (by kernel_rfl) (fun _ _ _ h => h) (Or.inl ⟨by kernel_rfl, ?_⟩) (by assumption) ?_
  rotate_left 1
  · (intro w hSw; obtain ⟨hk1, hk2⟩ := hSw; go_simp <;> with_reducible rfl)
  simp only [Act.put, List.getElem_toArray, List.getElem_cons_zero, List.getElem_cons_succ, List.setIfInBounds_toArray, List.set_cons_zero, List.set_cons_succ]
  refine wpAnyH_take (i := 14) (v := ?_) rfl (by kernel_rfl) (by kernel_rfl) (by kernel_rfl) (fun _ _ _ h => h) (Or.inl ⟨by kernel_rfl, ?_⟩) (by assumption) ?_
  rotate_left 1
  · (intro w hSw; obtain ⟨hk1, hk2⟩ := hSw; go_simp <;> with_reducible rfl)
  simp only [Act.put, List.getElem_toArray, List.getElem_cons_zero, List.getElem_cons_succ, List.setIfInBounds_toArray, List.set_cons_zero, List.set_cons_succ]
  refine wpAnyH_take (i := 15) (v := ?_) rfl (by kernel_rfl) (by kernel_rfl) (by kernel_rfl) (fun _ _ _ h => h) (Or.inl ⟨by kernel_rfl, ?_⟩) (by assumption) ?_
  rotate_left 1
  · (intro w hSw; obtain ⟨hk1, hk2⟩ := hSw; go_simp <;> with_reducible rfl)
  simp only [Act.put, List.getElem_toArray, List.getElem_cons_zero, List.getElem_cons_succ, List.setIfInBounds_toArray, List.set_cons_zero, List.set_cons_succ]
  refine wpAnyH_take (i := 16) (v := ?_) rfl (by kernel_rfl) (by kernel_rfl) (by kernel_rfl) (fun _ _ _ h => h) (Or.inl ⟨by kernel_rfl, ?_⟩) (by assumption) ?_
  rotate_left 1
  · (intro w hSw; obtain ⟨hk1, hk2⟩ := hSw; go_simp <;> with_reducible rfl)
  simp only [Act.put, List.getElem_toArray, List.getElem_cons_zero, List.getElem_cons_succ, List.setIfInBounds_toArray, List.set_cons_zero, List.set_cons_succ]
  refine wpAnyH_take (i := 17) (v := ?_) rfl (by kernel_rfl) (by kernel_rfl) (by kernel_rfl) (fun _ _ _ h => h) (Or.inl ⟨by kernel_rfl, ?_⟩) (by assumption) ?_
  rotate_left 1
  · (intro w hSw; obtain ⟨hk1, hk2⟩ := hSw; go_simp <;> with_reducible rfl)
  simp only [Act.put, List.getElem_toArray, List.getElem_cons_zero, List.getElem_cons_succ, List.setIfInBounds_toArray, List.set_cons_zero, List.set_cons_succ]
  refine nextH (i := 1) (by kernel_rfl) rfl (fun K hK => ?_)
  go_simp
  refine (frequencyError_c _ _).mono ?_
  rintro e w1 ⟨rfl, rfl⟩
  try dsimp only
  refine hK _ _ hSd ?_
  clear hK K
  refine wpAnyH_take (i := 4) (v := ?_) rfl (by kernel_rfl) (by kernel_rfl) (by kernel_rfl) (fun _ _ _ h => h) (Or.inl ⟨by kernel_rfl, ?_⟩) (by assumption) ?_
  rotate_left 1
  · (intro w hSw; obtain ⟨hk1, hk2⟩ := hSw; go_simp <;> with_reducible rfl)
  simp only [Act.put, List.getElem_toArray, List.getElem_cons_zero, List.getElem_cons_succ, List.setIfInBounds_toArray, List.set_cons_zero, List.set_cons_succ]
  refine wpAnyH_take (i := 5) (v := ?_) rfl (by kernel_rfl) (by kernel_rfl) (by kernel_rfl) (fun _ _ _ h => h) (Or.inl ⟨by kernel_rfl, ?_⟩) (by assumption) ?_
  rotate_left 1
  · (intro w hSw; obtain ⟨hk1, hk2⟩ := hSw; go_simp <;> with_reducible rfl)
  simp only [Act.put, List.getElem_toArray, List.getElem_cons_zero, List.getElem_cons_succ, List.setIfInBounds_toArray, List.set_cons_zero, List.set_cons_succ]
  refine wpAnyH_take (i := 6) (v := ?_) rfl (by kernel_rfl) (by kernel_rfl) (by kernel_rfl) (fun _ _ _ h => h) (Or.inl ⟨by kernel_rfl, ?_⟩) (by assumption) ?_
  rotate_left 1
  · (intro w hSw; obtain ⟨hk1, hk2⟩ := hSw; go_simp <;> with_reducible rfl)
  simp only [Act.put, List.getElem_toArray, List.getElem_cons_zero, List.getElem_cons_succ, List.setIfInBounds_toArray, List.set_cons_zero, List.set_cons_succ]
  refine wpAnyH_take (i := 7) (v := ?_) rfl (by kernel_rfl) (by kernel_rfl) (by kernel_rfl) (fun _ _ _ h => h) (Or.inl ⟨by kernel_rfl, ?_⟩) (by assumption) ?_
  rotate_left 1
  · (intro w hSw; obtain ⟨hk1, hk2⟩ := hSw; go_simp <;> with_reducible rfl)
  simp only [Act.put, List.getElem_toArray, List.getElem_cons_zero, List.getElem_cons_succ, List.setIfInBounds_toArray, List.set_cons_zero, List.set_cons_succ]
  refine wpAnyH_take (i := 8) (v := ?_) rfl (by kernel_rfl) (by kernel_rfl) (by kernel_rfl) (fun _ _ _ h => h) (Or.inl ⟨by kernel_rfl, ?_⟩) (by assumption) ?_
  rotate_left 1
  · (intro w hSw; obtain ⟨hk1, hk2⟩ := hSw; go_simp <;> with_reducible rfl)
  simp only [Act.put, List.getElem_toArray, List.getElem_cons_zero, List.getElem_cons_succ, List.setIfInBounds_toArray, List.set_cons_zero, List.set_cons_succ]
  refine wpAnyH_take (i := 9) (v := ?_) rfl (by kernel_rfl) (by kernel_rfl) (by kernel_rfl) (fun _ _ _ h => h) (Or.inl ⟨by kernel_rfl, ?_⟩) (by assumption) ?_
  rotate_left 1
  · (intro w hSw; obtain ⟨hk1, hk2⟩ := hSw; go_simp <;> with_reducible rfl)
  simp only [Act.put, List.getElem_toArray, List.getElem_cons_zero, List.getElem_cons_succ, List.setIfInBounds_toArray, List.set_cons_zero, List.set_cons_succ]
  refine wpAnyH_take (i := 10) (v := ?_) rfl (by kernel_rfl) (by kernel_rfl) (by kernel_rfl) (fun _ _ _ h => h) (Or.inl ⟨by kernel_rfl, ?_⟩) (by assumption) ?_
  rotate_left 1
  · (intro w hSw; obtain ⟨hk1, hk2⟩ := hSw; go_simp <;> with_reducible rfl)
  simp only [Act.put, List.getElem_toArray, List.getElem_cons_zero, List.getElem_cons_succ, List.setIfInBounds_toArray, List.set_cons_zero, List.set_cons_succ]
  refine wpAnyH_take (i := 11) (v := ?_) rfl (by kernel_rfl) (by kernel_rfl) (by kernel_rfl) (fun _ _ _ h => h) (Or.inl ⟨by kernel_rfl, ?_⟩) (by assumption) ?_
  rotate_left 1
  · (intro w hSw; obtain ⟨hk1, hk2⟩ := hSw; go_simp <;> with_reducible rfl)
  simp only [Act.put, List.getElem_toArray, List.getElem_cons_zero, List.getElem_cons_succ, List.setIfInBounds_toArray, List.set_cons_zero, List.set_cons_succ]
  refine wpAnyH_take (i := 12) (v := ?_) rfl (by kernel_rfl) (by kernel_rfl) (by kernel_rfl) (fun _ _ _ h => h) (Or.inl ⟨by kernel_rfl, ?_⟩) (by assumption) ?_
  rotate_left 1
  · (intro w hSw; obtain ⟨hk1, hk2⟩ := hSw; go_simp <;> with_reducible rfl)
  simp only [Act.put, List.getElem_toArray, List.getElem_cons_zero, List.getElem_cons_succ, List.setIfInBounds_toArray, List.set_cons_zero, List.set_cons_succ]
  refine nextH (i := 13) (by kernel_rfl) rfl (fun K hK => ?_)
  go_simp
  refine (errorIf_c _ _ _).mono ?_
  rintro e w13 ⟨rfl, rfl⟩
  try dsimp only
  refine hK _ _ hSd ?_
  clear hK K
  refine nextH (i := 18) (by kernel_rfl) rfl (fun K hK => ?_)
  go_simp
  refine (errorIf_c _ _ _).mono ?_
  rintro e w18 ⟨rfl, rfl⟩
  try dsimp only
  refine hK _ _ hSd ?_
  clear hK K
  have hbE := bel_alloc (Below.refl W.heap.size W) (Nat.le_refl _) (.cells #[.int .i64 (freqE f), .int .i64 (errIf (decide (f ≤ g0')) 9), .int .i64 ve, .int .i64 (errIf (decide (20000 < y)) 22)] 31)
  refine nextH (i := 19) (by kernel_rfl) rfl (fun K hK => ?_)
  go_simp
  have hS1 := kp (bel_alloc hSd.2 hSd.2.size (.cells #[.int .i64 (freqE f), .int .i64 (errIf (decide (f ≤ g0')) 9), .int .i64 ve, .int .i64 (errIf (decide (20000 < y)) 22)] 31))
  try dsimp only
  refine hK _ _ hS1 ?_
  clear hK K
  clear hSd
  have hSd := hS1
  clear hS1
  refine nextH (i := 20) (by kernel_rfl) rfl (fun K hK => ?_)
  go_simp
  refine (firstError_4D _ _ _ _ _).mono ?_
  rintro e w20 ⟨rfl, rfl⟩
  try dsimp only
  refine hK _ _ hSd ?_
  clear hK K
  refine nextH (i := 21) (by kernel_rfl) rfl (fun K hK => ?_)
  go_simp
  refine hK _ _ hSd ?_
  clear hK K
  refine wpAnyH_done (by kernel_rfl) ?_ _
  go_wp2
  go_ret
  exact ⟨by rw [HR2.out]; rfl, hS.next hbE.drew⟩

theorem traceOf1_c (base : Int) (A : Option Addr) (c : Nat) (l : List G) (F : Option Addr) (fc : Nat) (fs : List Int) (w0 : World) (p Q : Nat) (k : Nat) (f : Int) (W : World) (hI : TrI base A c l F fc fs w0 p Q k W) (hl : l.length ≤ 1000) (hk : k < fs.length) (hfs : fs.length ≤ 1000) (hf : fs.getD k 0 = f)
    (hA : gs l ≠ [] → ∀ b off, A = some ⟨b, off, none⟩ → b ≠ Q) (hF : ints fs ≠ [] → ∀ b off, F = some ⟨b, off, none⟩ → b ≠ Q) :
    Calls Try.prog 37 (#[.int .i64 (k : Int), .int .i64 f] ++ #[.pointer (some ⟨p, 0, none⟩), .pointer (some ⟨Q + 1, 0, none⟩), .pointer (some ⟨p + 1, 0, none⟩)]) W fun r w' => r = .returned (.int .i64 (trfE base l fs k f)) ∧ TrI base A c l F fc fs w0 p Q (k + 1) w' := by
  cases k with
  | zero => exact traceOf1_zero base A c l F fc fs w0 p Q f W hI hl hk hfs hf hA hF
  | succ j =>
    have := traceOf1_succ base A c l F fc fs w0 p Q j f W hI hl hk hfs hf hA hF
    rwa [show (((j + 1 : Nat) : Int)) = (j : Int) + 1 by omega]
end Go.Proofs.Ytdeehodekilaiaa
