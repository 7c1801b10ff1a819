/- Contracts: the usable frequencies of a task. -/
import Derived.Test.YtkcjiejdjdcbeaaRy41
import Derived.Test.YtkcjiejdjdcbeaaRy23
set_option linter.unusedSimpArgs false
set_option linter.unusedVariables false
set_option linter.unusedSimpArgs false
set_option linter.unusedVariables false
namespace Go.Proofs.Ytkcjiejdjdcbeaa
open Go.RowKit
set_option maxRecDepth 100000

/-- The errors of a sky and a task; the usable frequencies, and the error. -/
def usaE (H g lo hi : Int) (fs : List Int) (l : List G) : Int := firstE [(skyE H l).2, taskE g lo hi fs]
def usaQ (H g lo hi : Int) (fs : List Int) (l : List G) : (Int × Int × Int) × Int :=
  if usaE H g lo hi fs l ≠ 0 then ((0, 0, 0), usaE H g lo hi fs l) else (usAll H g.toNat lo hi l fs, errIf ((usAll H g.toNat lo hi l fs).2.2 == 0) 12)
/-- What a task without an error hands on. -/
structure OkT (g lo hi : Int) (fs : List Int) : Prop where
  g0 : 1 ≤ g
  g1 : g ≤ 100
  lo0 : 0 ≤ lo
  lo1 : lo ≤ 2000000
  hi0 : 0 ≤ hi
  hi1 : hi ≤ 2000000
  lohi : lo ≤ hi
  n0 : 1 ≤ fs.length
  n1 : fs.length ≤ 30
  each : ∀ f ∈ fs, 1 ≤ f ∧ f ≤ 3000
  rising : ∀ k (h : k < fs.length), 0 < k → fs.getD (k - 1) 0 < fs[k]
theorem okT {g lo hi : Int} {fs : List Int} (h : taskE g lo hi fs = 0) : OkT g lo hi fs := by
  unfold taskE at h
  rw [firstE_zero, firstE_zero, firstE_zero, firstE_zero, firstE_zero, firstE_zero] at h
  obtain ⟨h1, h2, h3, h4, h5, h6, _⟩ := h
  unfold gridE at h1
  rw [errIf_none (by decide)] at h1 h2 h3 h4 h5
  have a1 := outB_false.1 h1
  rw [Bool.or_eq_false_iff] at h2
  have a2 := outB_false.1 h2.1
  have a3 := outB_false.1 h2.2
  rw [decide_eq_false_iff_not] at h3 h5
  have a4 : ¬ (fs.length : Int) = 0 := by simpa using h4
  have hk := firstBadFrom_snd h6
  refine ⟨by omega, by omega, by omega, by omega, by omega, by omega, by omega, by omega, by omega, fun f hf => ?_, fun k hl h0 => ?_⟩
  · obtain ⟨k, hl, rfl⟩ := List.getElem_of_mem hf
    have h7 := hk k hl
    unfold tskE at h7
    rw [firstE_zero] at h7
    exact freqE_zero h7.1
  · have h7 := hk k hl
    unfold tskE at h7
    rw [firstE_zero, firstE_zero, errIf_none (by decide), Bool.and_eq_false_iff, decide_eq_false_iff_not, decide_eq_false_iff_not] at h7
    rcases h7.2.1 with h8 | h8 <;> omega
set_option maxHeartbeats 4000000 in
theorem usableForE_bad (H g lo hi : Int) (fs : List Int) (A B : Option Addr) (c d : Nat) (l : List G) (w : World) (hr : Rd w A (gs l)) (hs : Rd w B (ints fs)) (hl : l.length ≤ 1000) (hfl : fs.length ≤ 1000) (he : usaE H g lo hi fs l ≠ 0) :
    Calls Try.prog 64 #[.agg #[.int .i64 H, .slice A l.length c], .agg #[.int .i64 g, .int .i64 lo, .int .i64 hi, .slice B fs.length d]] w fun r w' => r = .returned (.tuple #[.agg #[.int .i64 (usaQ H g lo hi fs l).1.1, .int .i64 (usaQ H g lo hi fs l).1.2.1, .int .i64 (usaQ H g lo hi fs l).1.2.2], .int .i64 (usaQ H g lo hi fs l).2]) ∧ Below w.heap.size w w' := by
  have HR : Hid (usaQ H g lo hi fs l = ((0, 0, 0), usaE H g lo hi fs l)) := by show _ = _; unfold usaQ; rw [if_pos he]
  have HS := hide (fun W (h : Rd W A (gs l)) => skyError_c H A c l W h hl)
  have HT := hide (fun W (h : Rd W B (ints fs)) => taskError_c g lo hi fs B d W h hfl)
  have HE : Hid (usaE H g lo hi fs l = firstE [(skyE H l).2, taskE g lo hi fs]) := rfl
  generalize usaE H g lo hi fs l = e at HE he HR
  generalize (skyE H l).2 = es at HS HE
  generalize taskE g lo hi fs = et at HT HE
  obtain ⟨q, hq⟩ : ∃ q, w.heap.size = q := ⟨_, rfl⟩
  obtain ⟨q1, hq1⟩ : ∃ q1, q + 1 = q1 := ⟨_, rfl⟩
  obtain ⟨q2, hq2⟩ : ∃ q2, q1 + 1 = q2 := ⟨_, rfl⟩
  obtain ⟨Wa, hWa⟩ : ∃ Wa, w.alloc (.cells #[.int .i64 H, .slice A l.length c] 24) = Wa := ⟨_, rfl⟩
  have ba : Below w.heap.size w Wa := by rw [← hWa]; exact alloc_bel _ _
  have sa : Wa.heap.size = q1 := by rw [← hWa, ← hq1, ← hq]; simp
  have ka : Blk Wa q 24 [.int .i64 H, .slice A l.length c] := by rw [← hWa, ← hq]; exact Blk.new w _ [_, _]
  obtain ⟨Wb, hWb⟩ : ∃ Wb, Wa.alloc (.cells #[.int .i64 g, .int .i64 lo, .int .i64 hi, .slice B fs.length d] 95) = Wb := ⟨_, rfl⟩
  have bb : Below Wa.heap.size Wa Wb := by rw [← hWb]; exact alloc_bel _ _
  have sb : Wb.heap.size = q2 := by rw [← hWb, ← hq2, ← sa]; simp
  have kb : Blk Wb q1 95 [.int .i64 g, .int .i64 lo, .int .i64 hi, .slice B fs.length d] := by rw [← hWb, ← sa]; exact Blk.new Wa _ [_, _, _, _]
  obtain ⟨W, hWc⟩ : ∃ W, Wb.alloc (.cells #[.int .i64 0, .int .i64 0, .int .i64 0] 111) = W := ⟨_, rfl⟩
  have bc : Below Wb.heap.size Wb W := by rw [← hWc]; exact alloc_bel _ _
  have kc : Blk W q2 111 [.int .i64 0, .int .i64 0, .int .i64 0] := by rw [← hWc, ← sb]; exact Blk.new Wb _ [_, _, _]
  have hABC : ((w.alloc (.cells #[.int .i64 H, .slice A l.length c] 24)).alloc (.cells #[.int .i64 g, .int .i64 lo, .int .i64 hi, .slice B fs.length d] 95)).alloc (.cells #[.int .i64 0, .int .i64 0, .int .i64 0] 111) = W := by rw [hWa, hWb, hWc]
  have HW := hide hABC
  have k1 := (ka.bel bb).bel bc
  have k2 := kb.bel bc
  have hrW := ((hr.bel ba).bel bb).bel bc
  have hsW := ((hs.bel ba).bel bb).bel bc
  have hBW : Below q w W := by
    rw [hq] at ba
    rw [sa] at bb
    rw [sb] at bc
    exact (ba.trans (bb.mono (by omega))).trans (bc.mono (by omega))
  have z1 : q < W.heap.size := k1.lt
  have z2 : q1 < W.heap.size := k2.lt
  have z3 : q2 < W.heap.size := kc.lt
  clear hABC hWa hWb hWc ba bb bc ka kb sa sb
  have s0 := k1.cell 0; have s1 := k1.cell 1; simp only [List.getElem?_cons_zero, List.getElem?_cons_succ] at s0 s1
  have t0 := k2.cell 0; have t1 := k2.cell 1; have t2 := k2.cell 2; have t3 := k2.cell 3; simp only [List.getElem?_cons_zero, List.getElem?_cons_succ] at t0 t1 t2 t3
  go_enter Try.func64, Try.ntmps64
  go_upto_region 1 with fail
  try simp only [World.size_alloc, hq, hq1, hq2]
  rw [HW.out]
  have hSd : (∀ b o, b < W.heap.size → W.drew.cell? ⟨b, o, none⟩ = W.cell? ⟨b, o, none⟩) ∧ Below W.heap.size W W.drew := kp (Below.refl _ _).drew
  refine wp_region_held (S := fun w' => (∀ b o, b < W.heap.size → w'.cell? ⟨b, o, none⟩ = W.cell? ⟨b, o, none⟩) ∧ Below W.heap.size W w') (by kernel_rfl) ?_
  change wpAnyH _ _ _ _ _ _ _ _ W.drew
  refine wpAnyH_take (i := 0) (v := ?_) rfl (by kernel_rfl) (by kernel_rfl) (by kernel_rfl) (fun _ _ _ h => h) (Or.inl ⟨by kernel_rfl, ?_⟩) (by assumption) ?_
  rotate_left 1
  · (intro w hSw; obtain ⟨hk1, hk2⟩ := hSw; go_simp <;> with_reducible rfl)
  simp only [Act.put, List.getElem_toArray, List.getElem_cons_zero, List.setIfInBounds_toArray, List.set_cons_zero, List.set_cons_succ]
  refine wpAnyH_take (i := 2) (v := ?_) rfl (by kernel_rfl) (by kernel_rfl) (by kernel_rfl) (fun _ _ _ h => h) (Or.inl ⟨by kernel_rfl, ?_⟩) (by assumption) ?_
  rotate_left 1
  · (intro w hSw; obtain ⟨hk1, hk2⟩ := hSw; go_simp <;> with_reducible rfl)
  simp only [Act.put, List.getElem_toArray, List.getElem_cons_zero, List.getElem_cons_succ, List.setIfInBounds_toArray, List.set_cons_zero, List.set_cons_succ]
  refine nextH (i := 1) (by kernel_rfl) rfl (fun K hK => ?_)
  go_simp
  refine (HS.out _ (hrW.bel hSd.2)).mono ?_
  rintro e_ w1 ⟨rfl, hbx⟩
  have hS' := kp (bel_tr hSd.2 hSd.2.size hbx)
  try dsimp only
  refine hK _ _ hS' ?_
  clear hK K hSd hbx
  have hSd := hS'
  clear hS'
  refine nextH (i := 3) (by kernel_rfl) rfl (fun K hK => ?_)
  go_simp
  refine (HT.out _ (hsW.bel hSd.2)).mono ?_
  rintro e_ w2 ⟨rfl, hbx⟩
  have hS' := kp (bel_tr hSd.2 hSd.2.size hbx)
  try dsimp only
  refine hK _ _ hS' ?_
  clear hK K hSd hbx
  have hSd := hS'
  clear hS'
  refine nextH (i := 4) (by kernel_rfl) rfl (fun K hK => ?_)
  go_simp
  refine hK _ _ (kp (bel_alloc hSd.2 hSd.2.size _)) ?_
  clear hK K
  have hS9 := kp (bel_alloc hSd.2 hSd.2.size (.cells #[.int .i64 es, .int .i64 et] 29))
  clear hSd
  have hSd := hS9
  clear hS9
  refine nextH (i := 5) (by kernel_rfl) rfl (fun K hK => ?_)
  go_simp
  refine (firstError_2 _ _ _).mono ?_
  rintro e_ w_ ⟨rfl, rfl⟩
  try dsimp only
  refine hK _ _ hSd ?_
  clear hK K
  refine nextH (i := 6) (by kernel_rfl) rfl (fun K hK => ?_)
  go_simp
  refine hK _ _ hSd ?_
  clear hK K
  refine wpAnyH_done (by kernel_rfl) ?_ _
  rw [← HE.out]
  obtain ⟨w5, hw5⟩ : ∃ w5, w2.alloc (.cells #[.int .i64 es, .int .i64 et] 29) = w5 := ⟨_, rfl⟩
  rw [hw5] at hSd ⊢
  have hb5 := hSd.2
  have k15 := k1.bel hb5
  have k25 := k2.bel hb5
  have k35 := kc.bel hb5
  have hr5 := hrW.bel hb5
  have hs5 := hsW.bel hb5
  have hB5 : Below q w w5 := hBW.trans (hb5.mono (by omega))
  have z5 : q ≤ w5.heap.size := by have := hb5.size; omega
  clear hw5 hSd s0 s1 t0 t1 t2 t3 k1 k2 kc hrW hsW hBW HE HS HT hb5
  have e1 : (e != 0) = true := by simpa using he
  clear he
  obtain ⟨x0, x1, x2⟩ : w5.cell? ⟨q2, 0, none⟩ = some (.int .i64 0) ∧ w5.cell? ⟨q2, 1, none⟩ = some (.int .i64 0) ∧ w5.cell? ⟨q2, 2, none⟩ = some (.int .i64 0) := ⟨k35.cell 0, k35.cell 1, k35.cell 2⟩
  obtain ⟨y0, y1, y2⟩ : w5.frozen? ⟨q2, 0, none⟩ = false ∧ w5.frozen? ⟨q2, 1, none⟩ = false ∧ w5.frozen? ⟨q2, 2, none⟩ = false := ⟨k35.frozen 0, k35.frozen 1, k35.frozen 2⟩
  have z35 := k35.lt
  go_wp2
  obtain ⟨WE, hWE⟩ : ∃ WE, ((w5.setCell ⟨q2, 0, none⟩ (.int .i64 (0))).setCell ⟨q2, 1, none⟩ (.int .i64 (0))).setCell ⟨q2, 2, none⟩ (.int .i64 (0)) = WE := ⟨_, rfl⟩
  rw [hWE]
  have hE : Blk WE q2 111 [.int .i64 (0), .int .i64 (0), .int .i64 (0)] := by rw [← hWE]; exact ((k35.set_ 0 _).set_ 1 _).set_ 2 _
  have hqq : q ≤ q2 := by omega
  have hBE : Below q w WE := by rw [← hWE]; exact ((hB5.setCell hqq _).setCell hqq _).setCell hqq _
  clear hWE
  have g0 := hE.cell 0; have g1 := hE.cell 1; have g2 := hE.cell 2; simp only [List.getElem?_cons_zero, List.getElem?_cons_succ] at g0 g1 g2
  exact bodyPost_ret (v := .tuple #[.agg #[.int .i64 0, .int .i64 0, .int .i64 0], .int .i64 e]) (by simp [results, Try.results64, go_sem, g0, g1, g2]; try rfl) rfl ⟨by rw [HR.out], by first | exact hBE | (rw [hq]; exact hBE)⟩
set_option maxHeartbeats 4000000 in
theorem usableForE_ok (H g lo hi : Int) (fs : List Int) (A B : Option Addr) (c d : Nat) (l : List G) (w : World) (hr : Rd w A (gs l)) (hs : Rd w B (ints fs)) (hc : l.length ≤ c) (he : usaE H g lo hi fs l = 0) :
    Calls Try.prog 64 #[.agg #[.int .i64 H, .slice A l.length c], .agg #[.int .i64 g, .int .i64 lo, .int .i64 hi, .slice B fs.length d]] w fun r w' => r = .returned (.tuple #[.agg #[.int .i64 (usaQ H g lo hi fs l).1.1, .int .i64 (usaQ H g lo hi fs l).1.2.1, .int .i64 (usaQ H g lo hi fs l).1.2.2], .int .i64 (usaQ H g lo hi fs l).2]) ∧ Below w.heap.size w w' := by
  have hz := he
  unfold usaE at hz
  rw [firstE_zero, firstE_zero] at hz
  obtain ⟨H0, H1, l0, l1, hok⟩ := skyE_zero hz.1
  have hT := okT hz.2.1
  have hl : l.length ≤ 1000 := by omega
  have hfl : fs.length ≤ 1000 := by have := hT.n1; omega
  have HR : Hid (usaQ H g lo hi fs l = (usAll H g.toNat lo hi l fs, errIf ((usAll H g.toNat lo hi l fs).2.2 == 0) 12)) := by show _ = _; unfold usaQ; rw [if_neg (by rw [he]; simp)]
  have HU : Hid (∀ W, Rd W A (gs l) → Rd W B (ints fs) → Calls Try.prog 130 #[.agg #[.int .i64 H, .slice A l.length c], .agg #[.int .i64 g, .int .i64 lo, .int .i64 hi, .slice B fs.length d]] W fun r w' => r = .returned (.agg #[.int .i64 (usAll H g.toNat lo hi l fs).1, .int .i64 (usAll H g.toNat lo hi l fs).2.1, .int .i64 (usAll H g.toNat lo hi l fs).2.2]) ∧ Below W.heap.size W w') := by
    intro W h1 h2
    have h3 := usableFor_c H g.toNat lo hi fs A B c d l W h1 h2 hc H0 H1 l0 l1 hok (by have := hT.g0; omega) (by have := hT.g1; omega) hT.each (by have := hT.n1; omega)
    rw [show ((g.toNat : Nat) : Int) = g by have := hT.g0; omega] at h3
    exact h3
  clear hz hT H0 H1 l0 l1 hok
  have HS := hide (fun W (h : Rd W A (gs l)) => skyError_c H A c l W h hl)
  have HT := hide (fun W (h : Rd W B (ints fs)) => taskError_c g lo hi fs B d W h hfl)
  have HE : Hid (usaE H g lo hi fs l = firstE [(skyE H l).2, taskE g lo hi fs]) := rfl
  generalize usaE H g lo hi fs l = e at HE he HR
  generalize (skyE H l).2 = es at HS HE
  generalize taskE g lo hi fs = et at HT HE
  obtain ⟨q, hq⟩ : ∃ q, w.heap.size = q := ⟨_, rfl⟩
  obtain ⟨q1, hq1⟩ : ∃ q1, q + 1 = q1 := ⟨_, rfl⟩
  obtain ⟨q2, hq2⟩ : ∃ q2, q1 + 1 = q2 := ⟨_, rfl⟩
  obtain ⟨Wa, hWa⟩ : ∃ Wa, w.alloc (.cells #[.int .i64 H, .slice A l.length c] 24) = Wa := ⟨_, rfl⟩
  have ba : Below w.heap.size w Wa := by rw [← hWa]; exact alloc_bel _ _
  have sa : Wa.heap.size = q1 := by rw [← hWa, ← hq1, ← hq]; simp
  have ka : Blk Wa q 24 [.int .i64 H, .slice A l.length c] := by rw [← hWa, ← hq]; exact Blk.new w _ [_, _]
  obtain ⟨Wb, hWb⟩ : ∃ Wb, Wa.alloc (.cells #[.int .i64 g, .int .i64 lo, .int .i64 hi, .slice B fs.length d] 95) = Wb := ⟨_, rfl⟩
  have bb : Below Wa.heap.size Wa Wb := by rw [← hWb]; exact alloc_bel _ _
  have sb : Wb.heap.size = q2 := by rw [← hWb, ← hq2, ← sa]; simp
  have kb : Blk Wb q1 95 [.int .i64 g, .int .i64 lo, .int .i64 hi, .slice B fs.length d] := by rw [← hWb, ← sa]; exact Blk.new Wa _ [_, _, _, _]
  obtain ⟨W, hWc⟩ : ∃ W, Wb.alloc (.cells #[.int .i64 0, .int .i64 0, .int .i64 0] 111) = W := ⟨_, rfl⟩
  have bc : Below Wb.heap.size Wb W := by rw [← hWc]; exact alloc_bel _ _
  have kc : Blk W q2 111 [.int .i64 0, .int .i64 0, .int .i64 0] := by rw [← hWc, ← sb]; exact Blk.new Wb _ [_, _, _]
  have hABC : ((w.alloc (.cells #[.int .i64 H, .slice A l.length c] 24)).alloc (.cells #[.int .i64 g, .int .i64 lo, .int .i64 hi, .slice B fs.length d] 95)).alloc (.cells #[.int .i64 0, .int .i64 0, .int .i64 0] 111) = W := by rw [hWa, hWb, hWc]
  have HW := hide hABC
  have k1 := (ka.bel bb).bel bc
  have k2 := kb.bel bc
  have hrW := ((hr.bel ba).bel bb).bel bc
  have hsW := ((hs.bel ba).bel bb).bel bc
  have hBW : Below q w W := by
    rw [hq] at ba
    rw [sa] at bb
    rw [sb] at bc
    exact (ba.trans (bb.mono (by omega))).trans (bc.mono (by omega))
  have z1 : q < W.heap.size := k1.lt
  have z2 : q1 < W.heap.size := k2.lt
  have z3 : q2 < W.heap.size := kc.lt
  clear hABC hWa hWb hWc ba bb bc ka kb sa sb
  have s0 := k1.cell 0; have s1 := k1.cell 1; simp only [List.getElem?_cons_zero, List.getElem?_cons_succ] at s0 s1
  have t0 := k2.cell 0; have t1 := k2.cell 1; have t2 := k2.cell 2; have t3 := k2.cell 3; simp only [List.getElem?_cons_zero, List.getElem?_cons_succ] at t0 t1 t2 t3
  go_enter Try.func64, Try.ntmps64
  go_upto_region 1 with fail
  try simp only [World.size_alloc, hq, hq1, hq2]
  rw [HW.out]
  have hSd : (∀ b o, b < W.heap.size → W.drew.cell? ⟨b, o, none⟩ = W.cell? ⟨b, o, none⟩) ∧ Below W.heap.size W W.drew := kp (Below.refl _ _).drew
  refine wp_region_held (S := fun w' => (∀ b o, b < W.heap.size → w'.cell? ⟨b, o, none⟩ = W.cell? ⟨b, o, none⟩) ∧ Below W.heap.size W w') (by kernel_rfl) ?_
  change wpAnyH _ _ _ _ _ _ _ _ W.drew
  refine wpAnyH_take (i := 0) (v := ?_) rfl (by kernel_rfl) (by kernel_rfl) (by kernel_rfl) (fun _ _ _ h => h) (Or.inl ⟨by kernel_rfl, ?_⟩) (by assumption) ?_
  rotate_left 1
  · (intro w hSw; obtain ⟨hk1, hk2⟩ := hSw; go_simp <;> with_reducible rfl)
  simp only [Act.put, List.getElem_toArray, List.getElem_cons_zero, List.setIfInBounds_toArray, List.set_cons_zero, List.set_cons_succ]
  refine wpAnyH_take (i := 2) (v := ?_) rfl (by kernel_rfl) (by kernel_rfl) (by kernel_rfl) (fun _ _ _ h => h) (Or.inl ⟨by kernel_rfl, ?_⟩) (by assumption) ?_
  rotate_left 1
  · (intro w hSw; obtain ⟨hk1, hk2⟩ := hSw; go_simp <;> with_reducible rfl)
  simp only [Act.put, List.getElem_toArray, List.getElem_cons_zero, List.getElem_cons_succ, List.setIfInBounds_toArray, List.set_cons_zero, List.set_cons_succ]
  refine nextH (i := 1) (by kernel_rfl) rfl (fun K hK => ?_)
  go_simp
  refine (HS.out _ (hrW.bel hSd.2)).mono ?_
  rintro e_ w1 ⟨rfl, hbx⟩
  have hS' := kp (bel_tr hSd.2 hSd.2.size hbx)
  try dsimp only
  refine hK _ _ hS' ?_
  clear hK K hSd hbx
  have hSd := hS'
  clear hS'
  refine nextH (i := 3) (by kernel_rfl) rfl (fun K hK => ?_)
  go_simp
  refine (HT.out _ (hsW.bel hSd.2)).mono ?_
  rintro e_ w2 ⟨rfl, hbx⟩
  have hS' := kp (bel_tr hSd.2 hSd.2.size hbx)
  try dsimp only
  refine hK _ _ hS' ?_
  clear hK K hSd hbx
  have hSd := hS'
  clear hS'
  refine nextH (i := 4) (by kernel_rfl) rfl (fun K hK => ?_)
  go_simp
  refine hK _ _ (kp (bel_alloc hSd.2 hSd.2.size _)) ?_
  clear hK K
  have hS9 := kp (bel_alloc hSd.2 hSd.2.size (.cells #[.int .i64 es, .int .i64 et] 29))
  clear hSd
  have hSd := hS9
  clear hS9
  refine nextH (i := 5) (by kernel_rfl) rfl (fun K hK => ?_)
  go_simp
  refine (firstError_2 _ _ _).mono ?_
  rintro e_ w_ ⟨rfl, rfl⟩
  try dsimp only
  refine hK _ _ hSd ?_
  clear hK K
  refine nextH (i := 6) (by kernel_rfl) rfl (fun K hK => ?_)
  go_simp
  refine hK _ _ hSd ?_
  clear hK K
  refine wpAnyH_done (by kernel_rfl) ?_ _
  rw [← HE.out]
  obtain ⟨w5, hw5⟩ : ∃ w5, w2.alloc (.cells #[.int .i64 es, .int .i64 et] 29) = w5 := ⟨_, rfl⟩
  rw [hw5] at hSd ⊢
  have hb5 := hSd.2
  have k15 := k1.bel hb5
  have k25 := k2.bel hb5
  have k35 := kc.bel hb5
  have hr5 := hrW.bel hb5
  have hs5 := hsW.bel hb5
  have hB5 : Below q w w5 := hBW.trans (hb5.mono (by omega))
  have z5 : q ≤ w5.heap.size := by have := hb5.size; omega
  clear hw5 hSd s0 s1 t0 t1 t2 t3 k1 k2 kc hrW hsW hBW HE HS HT hb5
  have e1 : (e != 0) = false := by simpa using he
  clear he
  generalize usAll H g.toNat lo hi l fs = s at HU HR
  obtain ⟨s1, s2, s3⟩ := s
  dsimp only at HU HR
  have m0 := k15.cell 0; have m1 := k15.cell 1; simp only [List.getElem?_cons_zero, List.getElem?_cons_succ] at m0 m1
  have t0 := k25.cell 0; have t1 := k25.cell 1; have t2 := k25.cell 2; have t3 := k25.cell 3; simp only [List.getElem?_cons_zero, List.getElem?_cons_succ] at t0 t1 t2 t3
  have z15 := k15.lt
  have z25 := k25.lt
  go_upto_region 5 with (go_at_call 130; refine (HU.out _ hr5 hs5).mono ?_; rintro e_ w6 ⟨rfl, hb6⟩)
  obtain ⟨v, hv⟩ : ∃ v, w6.heap.size = v := ⟨_, rfl⟩
  obtain ⟨W7, hW7⟩ : ∃ W7, w6.alloc (.cells #[.int .i64 s1, .int .i64 s2, .int .i64 s3] 111) = W7 := ⟨_, rfl⟩
  have b7 : Below w6.heap.size w6 W7 := by rw [← hW7]; exact alloc_bel _ _
  have kZ : Blk W7 v 111 [.int .i64 s1, .int .i64 s2, .int .i64 s3] := by rw [← hW7, ← hv]; exact Blk.new w6 _ [_, _, _]
  have k37 := (k35.bel hb6).bel b7
  have hB7 : Below q w W7 := (hB5.trans (hb6.mono z5)).trans (b7.mono (by have := hb6.size; omega))
  rw [hW7]
  try simp only [hv]
  have hvq : q2 < v := by have := k35.lt; have := hb6.size; omega
  clear hW7 b7 hb6 HU k15 k25 k35 hr5 hs5 m0 m1 t0 t1 t2 t3 hB5 hv HW
  obtain ⟨x0, x1, x2⟩ : W7.cell? ⟨q2, 0, none⟩ = some (.int .i64 0) ∧ W7.cell? ⟨q2, 1, none⟩ = some (.int .i64 0) ∧ W7.cell? ⟨q2, 2, none⟩ = some (.int .i64 0) := ⟨k37.cell 0, k37.cell 1, k37.cell 2⟩
  obtain ⟨y0, y1, y2⟩ : W7.frozen? ⟨q2, 0, none⟩ = false ∧ W7.frozen? ⟨q2, 1, none⟩ = false ∧ W7.frozen? ⟨q2, 2, none⟩ = false := ⟨k37.frozen 0, k37.frozen 1, k37.frozen 2⟩
  have z37 := k37.lt
  obtain ⟨bo, hbo⟩ : ∃ bo, (s3 == 0) = bo := ⟨_, rfl⟩
  have hSd : Blk W7.drew v 111 [.int .i64 s1, .int .i64 s2, .int .i64 s3] ∧ True := ⟨kZ, trivial⟩
  refine wp_region_held (S := fun w' => Blk w' v 111 [.int .i64 s1, .int .i64 s2, .int .i64 s3] ∧ True) (by kernel_rfl) ?_
  change wpAnyH _ _ _ _ _ _ _ _ W7.drew
  refine wpAnyH_take (i := 0) (v := ?_) rfl (by kernel_rfl) (by kernel_rfl) (by kernel_rfl) (fun _ _ _ h => h) (Or.inl ⟨by kernel_rfl, ?_⟩) (by assumption) ?_
  rotate_left 1
  · (intro w hSw; obtain ⟨hk1, hk2⟩ := hSw; have c0 := hk1.cell 0; have c1 := hk1.cell 1; have c2 := hk1.cell 2; simp only [List.getElem?_cons_zero, List.getElem?_cons_succ] at c0 c1 c2; have zz := hk1.lt; go_simp <;> with_reducible rfl)
  simp only [Act.put, List.getElem_toArray, List.getElem_cons_zero, List.setIfInBounds_toArray, List.set_cons_zero, List.set_cons_succ]
  refine wpAnyH_take (i := 1) (v := ?_) rfl (by kernel_rfl) (by kernel_rfl) (by kernel_rfl) (fun _ _ _ h => h) (Or.inl ⟨by kernel_rfl, ?_⟩) (by assumption) ?_
  rotate_left 1
  · (intro w hSw; obtain ⟨hk1, hk2⟩ := hSw; have c0 := hk1.cell 0; have c1 := hk1.cell 1; have c2 := hk1.cell 2; simp only [List.getElem?_cons_zero, List.getElem?_cons_succ] at c0 c1 c2; have zz := hk1.lt; go_simp <;> with_reducible rfl)
  simp only [Act.put, List.getElem_toArray, List.getElem_cons_zero, List.getElem_cons_succ, List.setIfInBounds_toArray, List.set_cons_zero, List.set_cons_succ]
  refine wpAnyH_take (i := 2) (v := ?_) rfl (by kernel_rfl) (by kernel_rfl) (by kernel_rfl) (fun _ _ _ h => h) (Or.inl ⟨by kernel_rfl, ?_⟩) (by assumption) ?_
  rotate_left 1
  · (intro w hSw; obtain ⟨hk1, hk2⟩ := hSw; have c0 := hk1.cell 0; have c1 := hk1.cell 1; have c2 := hk1.cell 2; simp only [List.getElem?_cons_zero, List.getElem?_cons_succ] at c0 c1 c2; have zz := hk1.lt; go_simp <;> with_reducible rfl)
  simp only [Act.put, List.getElem_toArray, List.getElem_cons_zero, List.getElem_cons_succ, List.setIfInBounds_toArray, List.set_cons_zero, List.set_cons_succ]
  refine wpAnyH_take (i := 3) (v := ?_) rfl (by kernel_rfl) (by kernel_rfl) (by kernel_rfl) (fun _ _ _ h => h) (Or.inl ⟨by kernel_rfl, ?_⟩) (by assumption) ?_
  rotate_left 1
  · (intro w hSw; obtain ⟨hk1, hk2⟩ := hSw; have c0 := hk1.cell 0; have c1 := hk1.cell 1; have c2 := hk1.cell 2; simp only [List.getElem?_cons_zero, List.getElem?_cons_succ] at c0 c1 c2; have zz := hk1.lt; go_simp <;> with_reducible rfl)
  simp only [Act.put, List.getElem_toArray, List.getElem_cons_zero, List.getElem_cons_succ, List.setIfInBounds_toArray, List.set_cons_zero, List.set_cons_succ]
  refine nextH (i := 4) (by kernel_rfl) rfl (fun K hK => ?_)
  go_simp
  refine (errorIf_c _ _ _).mono ?_
  rintro e_ w_ ⟨rfl, rfl⟩
  try dsimp only
  refine hK _ _ hSd ?_
  clear hK K
  refine nextH (i := 5) (by kernel_rfl) rfl (fun K hK => ?_)
  go_simp
  obtain ⟨WE, hWE⟩ : ∃ WE, ((W7.setCell ⟨q2, 0, none⟩ (.int .i64 (s1))).setCell ⟨q2, 1, none⟩ (.int .i64 (s2))).setCell ⟨q2, 2, none⟩ (.int .i64 (s3)) = WE := ⟨_, rfl⟩
  rw [hWE]
  have hE : Blk WE q2 111 [.int .i64 (s1), .int .i64 (s2), .int .i64 (s3)] := by rw [← hWE]; exact ((k37.set_ 0 _).set_ 1 _).set_ 2 _
  have hqq : q ≤ q2 := by omega
  have hBE : Below q w WE := by rw [← hWE]; exact ((hB7.setCell hqq _).setCell hqq _).setCell hqq _
  have hSE : Blk WE.drew v 111 [.int .i64 s1, .int .i64 s2, .int .i64 s3] ∧ True := by rw [← hWE]; exact ⟨((kZ.far (by show v ≠ q2; omega) _).far (by show v ≠ q2; omega) _).far (by show v ≠ q2; omega) _, trivial⟩
  clear hWE
  refine hK _ _ hSE ?_
  clear hK K
  refine nextH (i := 6) (by kernel_rfl) rfl (fun K hK => ?_)
  go_simp
  refine hK _ _ hSE ?_
  clear hK K
  refine wpAnyH_done (by kernel_rfl) ?_ _
  have hEd : Blk WE.drew q2 111 [.int .i64 s1, .int .i64 s2, .int .i64 s3] := hE
  have hBEd : Below q w WE.drew := hBE.drew
  have hbo2 := hide hbo
  clear hbo
  have g0 := hEd.cell 0; have g1 := hEd.cell 1; have g2 := hEd.cell 2; simp only [List.getElem?_cons_zero, List.getElem?_cons_succ] at g0 g1 g2
  go_wp2
  exact bodyPost_ret (v := .tuple #[.agg #[.int .i64 s1, .int .i64 s2, .int .i64 s3], .int .i64 (errIf bo 12)]) (by simp [results, Try.results64, go_sem, g0, g1, g2]; try rfl) rfl ⟨by rw [HR.out]; dsimp only; rw [hbo2.out], by first | exact hBEd | (rw [hq]; exact hBEd)⟩
theorem usableForE_c (H g lo hi : Int) (fs : List Int) (A B : Option Addr) (c d : Nat) (l : List G) (w : World) (hr : Rd w A (gs l)) (hs : Rd w B (ints fs)) (hl : l.length ≤ 1000) (hfl : fs.length ≤ 1000) (hc : l.length ≤ c) :
    Calls Try.prog 64 #[.agg #[.int .i64 H, .slice A l.length c], .agg #[.int .i64 g, .int .i64 lo, .int .i64 hi, .slice B fs.length d]] w fun r w' => r = .returned (.tuple #[.agg #[.int .i64 (usaQ H g lo hi fs l).1.1, .int .i64 (usaQ H g lo hi fs l).1.2.1, .int .i64 (usaQ H g lo hi fs l).1.2.2], .int .i64 (usaQ H g lo hi fs l).2]) ∧ Below w.heap.size w w' := by
  by_cases he : usaE H g lo hi fs l = 0
  · exact usableForE_ok H g lo hi fs A B c d l w hr hs hc he
  · exact usableForE_bad H g lo hi fs A B c d l w hr hs hl hfl he
end Go.Proofs.Ytkcjiejdjdcbeaa
