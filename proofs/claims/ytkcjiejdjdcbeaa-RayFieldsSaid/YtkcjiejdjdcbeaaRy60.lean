/- Contracts: the spans of the index squares with a field. -/
import Derived.Test.YtkcjiejdjdcbeaaRy39
import Derived.Test.YtkcjiejdjdcbeaaRy20
import Derived.Test.YtkcjiejdjdcbeaaRy19
import Derived.Test.YtkcjiejdjdcbeaaRy21
set_option linter.unusedSimpArgs false
set_option linter.unusedVariables false
set_option linter.unusedSimpArgs false
set_option linter.unusedVariables false
namespace Go.Proofs.Ytkcjiejdjdcbeaa
open Go.RowKit
set_option maxRecDepth 100000

theorem Try.infoSp : (Try.prog.info? 137).map (fun i => (i.zero, i.size, i.bytes)) = some (some (.agg #[.int .i64 0, .int .i64 0, .int .i64 0, .int .i64 0]), 4, 32) := by kernel_rfl
theorem madeCells_sp (n : Nat) : (madeCells (Value.agg #[.int .i64 0, .int .i64 0, .int .i64 0, .int .i64 0]).cells (n * 4)).toList = gs (List.replicate (n * 2) (0, 0)) := by
  rw [show (Value.agg #[.int .i64 0, .int .i64 0, .int .i64 0, .int .i64 0]).cells = #[.int .i64 0, .int .i64 0, .int .i64 0, .int .i64 0] from rfl, gs_repl, show n * 2 * 2 = n * 4 by omega]
  simp [madeCells]
  refine List.ext_getElem (by simp) fun i h1 h2 => ?_
  have hm : i % 4 = 0 ∨ i % 4 = 1 ∨ i % 4 = 2 ∨ i % 4 = 3 := by omega
  rcases hm with h | h | h | h <;> simp [h]
theorem makeSpans (n : Nat) (hn : n ≤ 1000) (W : World) : (Instr.makeSlice 124 (.int .i64 (n : Int)) (.int .i64 (n : Int))).run Try.prog W = .ok (.slice (some ⟨W.heap.size, 0, none⟩) n n) (W.alloc (.cells (gs (List.replicate (n * 2) (0, 0))).toArray 137)) := by
  obtain ⟨i0, hi, iz0, iz1, iz2⟩ := info_parts Try.infoSp
  have h1 := run_make_rowN (P := Try.prog) 124 137 i0 _ Try.underlying124 hi iz0 .i64 .i64 n n (Nat.le_refl _) (by rw [iz2]; omega) (by omega) W
  have h2 := madeCells_sp n
  rw [iz1] at h1
  rw [h1]
  congr 3
  rw [← h2]
/-- The spans of index squares, lower end by upper end. -/
def spnL (f gy lo hi : Int) (l : List G) : List G := l.flatMap fun g => [idxW g.2 f (hi * gy), idxW g.2 f (lo * gy)]
theorem spnL_len (f gy lo hi : Int) (l : List G) : (spnL f gy lo hi l).length = l.length * 2 := by
  unfold spnL
  induction l with
  | nil => rfl
  | cons a l ih => rw [List.flatMap_cons, List.length_append, ih]; simp; omega
theorem spnL_take {f gy lo hi : Int} {l : List G} {k : Nat} (hk : k < l.length) : spnL f gy lo hi (l.take (k + 1)) = spnL f gy lo hi (l.take k) ++ [idxW l[k].2 f (hi * gy), idxW l[k].2 f (lo * gy)] := by
  unfold spnL
  rw [List.take_succ_eq_append_getElem hk, List.flatMap_append]
  simp
theorem spnL_set {f gy lo hi : Int} {l : List G} {k : Nat} (hlt : k < l.length) : ((spnL f gy lo hi (l.take k) ++ List.replicate ((l.length - k) * 2) (0, 0)).set (k * 2) (idxW l[k].2 f (hi * gy))).set (k * 2 + 1) (idxW l[k].2 f (lo * gy)) = spnL f gy lo hi (l.take (k + 1)) ++ List.replicate ((l.length - (k + 1)) * 2) (0, 0) := by
  have e : (l.length - k) * 2 = (l.length - (k + 1)) * 2 + 1 + 1 := by omega
  have e2 : (spnL f gy lo hi (l.take k)).length = k * 2 := by rw [spnL_len, List.length_take]; congr 1; omega
  rw [List.set_append_right _ _ (by omega), List.set_append_right _ _ (by omega), spnL_take hlt, e, List.replicate_succ, List.replicate_succ, e2, Nat.sub_self, show k * 2 + 1 - k * 2 = 1 by omega, List.set_cons_zero, List.set_cons_succ, List.set_cons_zero, List.append_assoc]
  rfl
/-- Two neighbouring pairs of a block are stored. -/
theorem blk_set4 {w : World} {b : Nat} {t : TypeId} {L : List G} {k : Nat} (h : Blk w b t (gs L)) (hk : k * 2 + 1 < L.length) (x y : G) :
    Blk ((((w.setCell ⟨b, k * 4, none⟩ (.int .i64 x.1)).setCell ⟨b, k * 4 + 1, none⟩ (.int .i64 x.2)).setCell ⟨b, k * 4 + 2, none⟩ (.int .i64 y.1)).setCell ⟨b, k * 4 + 3, none⟩ (.int .i64 y.2)) b t (gs ((L.set (k * 2) x).set (k * 2 + 1) y)) := by
  have h1 := (h.setG (k := k * 2) (g := x) (by omega)).setG (k := k * 2 + 1) (g := y) (by rw [List.length_set]; omega)
  rw [show k * 2 * 2 = k * 4 by omega, show (k * 2 + 1) * 2 = k * 4 + 2 by omega] at h1
  exact h1
theorem blk_at4 {w : World} {b : Nat} {t : TypeId} {L : List G} {k : Nat} (h : Blk w b t (gs L)) (hk : k * 2 + 1 < L.length) : ∃ a1 a2 a3 a4 : Int, w.cell? ⟨b, k * 4, none⟩ = some (.int .i64 a1) ∧ w.cell? ⟨b, k * 4 + 1, none⟩ = some (.int .i64 a2) ∧ w.cell? ⟨b, k * 4 + 2, none⟩ = some (.int .i64 a3) ∧ w.cell? ⟨b, k * 4 + 3, none⟩ = some (.int .i64 a4) := by
  have h1 := h.g_at (List.getElem?_eq_getElem (show k * 2 < L.length by omega))
  have h2 := h.g_at (List.getElem?_eq_getElem hk)
  rw [show k * 2 * 2 = k * 4 by omega] at h1
  rw [show (k * 2 + 1) * 2 = k * 4 + 2 by omega] at h2
  exact ⟨_, _, _, _, h1.1, h1.2, h2.1, h2.2⟩
/-- The errors of a sky, a frequency, a field. -/
def spaE (H f gy lo hi : Int) (l : List G) : Int := firstE [(skyE H l).2, freqE f, fieldE gy lo hi, gyroE f gy]
structure OkF (f gy lo hi : Int) : Prop where
  f0 : 1 ≤ f
  f1 : f ≤ 3000
  y0 : 0 ≤ gy
  y1 : gy ≤ 300
  lo0 : -100 ≤ lo
  lo1 : lo ≤ 100
  hi0 : -100 ≤ hi
  hi1 : hi ≤ 100
  lohi : lo ≤ hi
  yf : gy < f
theorem okF {f gy lo hi : Int} (h1 : freqE f = 0) (a2 : fieldE gy lo hi = 0) (a4 : gyroE f gy = 0) : OkF f gy lo hi := by
  have hf := freqE_zero h1
  unfold fieldE at a2
  rw [firstE_zero, firstE_zero, firstE_zero, errIf_none (by decide), errIf_none (by decide), errIf_none (by decide), Bool.or_eq_false_iff, decide_eq_false_iff_not] at a2
  obtain ⟨b1, ⟨b2, b3⟩, b4, _⟩ := a2
  unfold gyroE at a4
  rw [errIf_none (by decide), decide_eq_false_iff_not] at a4
  have c1 := outB_false.1 b1
  have c2 := outB_false.1 b2
  have c3 := outB_false.1 b3
  exact ⟨hf.1, hf.2, by omega, by omega, by omega, by omega, by omega, by omega, by omega, by omega⟩
theorem pull_bd {f gy cp : Int} (y0 : 0 ≤ gy) (y1 : gy ≤ 300) (c0 : -100 ≤ cp) (c1 : cp ≤ 100) (yf : gy < f) : -30000 ≤ cp * gy ∧ cp * gy ≤ 30000 ∧ cp * gy < 100 * f := by
  have h := mul_in c0 c1 (show -300 ≤ gy by omega) y1
  have h2 := Int.mul_le_mul_of_nonneg_right c1 y0
  omega
set_option maxHeartbeats 4000000 in
theorem indexSpans_bad (H f gy lo hi : Int) (A : Option Addr) (c : Nat) (l : List G) (w : World) (hr : Rd w A (gs l)) (hl : l.length ≤ 1000) (he : spaE H f gy lo hi l ≠ 0) :
    Calls Try.prog 69 #[.agg #[.int .i64 H, .slice A l.length c], .int .i64 f, .agg #[.int .i64 gy, .int .i64 lo, .int .i64 hi]] w fun r w' => r = .returned (.tuple #[.slice none 0 0, .int .i64 (spaE H f gy lo hi l)]) ∧ Below w.heap.size w w' := by
  have HS := hide (fun W (h : Rd W A (gs l)) => skyError_c H A c l W h hl)
  have HF := hide (fun W => frequencyError_c f W)
  have HT := hide (fun W => checkField_c gy lo hi W)
  have HY := hide (fun W => gyroError_c f gy lo hi W)
  have HE : Hid (spaE H f gy lo hi l = firstE [(skyE H l).2, freqE f, fieldE gy lo hi, gyroE f gy]) := rfl
  generalize spaE H f gy lo hi l = e at HE he ⊢
  generalize (skyE H l).2 = es at HS HE
  generalize hfq : freqE f = ef at HE
  rw [hfq] at HF
  clear hfq
  generalize fieldE gy lo hi = et at HT HE
  generalize hgq : gyroE f gy = ey at HE
  rw [hgq] at HY
  clear hgq
  obtain ⟨q, hq⟩ : ∃ q, w.heap.size = q := ⟨_, rfl⟩
  obtain ⟨q1, hq1⟩ : ∃ q1, q + 1 = q1 := ⟨_, rfl⟩
  obtain ⟨Wa, hWa⟩ : ∃ Wa, w.alloc (.cells #[.int .i64 H, .slice A l.length c] 24) = Wa := ⟨_, rfl⟩
  have ba : Below w.heap.size w Wa := by rw [← hWa]; exact alloc_bel _ _
  have sa : Wa.heap.size = q1 := by rw [← hWa, ← hq1, ← hq]; simp
  have ka : Blk Wa q 24 [.int .i64 H, .slice A l.length c] := by rw [← hWa, ← hq]; exact Blk.new w _ [_, _]
  obtain ⟨W, hWb⟩ : ∃ W, Wa.alloc (.cells #[.int .i64 gy, .int .i64 lo, .int .i64 hi] 121) = W := ⟨_, rfl⟩
  have bb : Below Wa.heap.size Wa W := by rw [← hWb]; exact alloc_bel _ _
  have k2 : Blk W q1 121 [.int .i64 gy, .int .i64 lo, .int .i64 hi] := by rw [← hWb, ← sa]; exact Blk.new Wa _ [_, _, _]
  have hAB : (w.alloc (.cells #[.int .i64 H, .slice A l.length c] 24)).alloc (.cells #[.int .i64 gy, .int .i64 lo, .int .i64 hi] 121) = W := by rw [hWa, hWb]
  have HW := hide hAB
  have k1 := ka.bel bb
  have hrW := (hr.bel ba).bel bb
  have hBW : Below q w W := by
    rw [hq] at ba
    exact ba.trans (bb.mono (by omega))
  have z1 : q < W.heap.size := k1.lt
  have z2 : q1 < W.heap.size := k2.lt
  clear hAB hWa hWb ba bb ka sa
  have s0 := k1.cell 0; have s1 := k1.cell 1; simp only [List.getElem?_cons_zero, List.getElem?_cons_succ] at s0 s1
  have t0 := k2.cell 0; have t1 := k2.cell 1; have t2 := k2.cell 2; simp only [List.getElem?_cons_zero, List.getElem?_cons_succ] at t0 t1 t2
  go_enter Try.func69, Try.ntmps69
  go_upto_region 1 with fail
  try simp only [World.size_alloc, hq, hq1]
  rw [HW.out]
  have hSd : (∀ b o, b < W.heap.size → W.drew.cell? ⟨b, o, none⟩ = W.cell? ⟨b, o, none⟩) ∧ Below W.heap.size W W.drew := kp (Below.refl _ _).drew
  refine wp_region_held (S := fun w' => (∀ b o, b < W.heap.size → w'.cell? ⟨b, o, none⟩ = W.cell? ⟨b, o, none⟩) ∧ Below W.heap.size W w') (by kernel_rfl) ?_
  change wpAnyH _ _ _ _ _ _ _ _ W.drew
  refine wpAnyH_take (i := 0) (v := ?_) rfl (by kernel_rfl) (by kernel_rfl) (by kernel_rfl) (fun _ _ _ h => h) (Or.inl ⟨by kernel_rfl, ?_⟩) (by assumption) ?_
  rotate_left 1
  · (intro w hSw; obtain ⟨hk1, hk2⟩ := hSw; go_simp <;> with_reducible rfl)
  simp only [Act.put, List.getElem_toArray, List.getElem_cons_zero, List.setIfInBounds_toArray, List.set_cons_zero, List.set_cons_succ]
  refine wpAnyH_take (i := 2) (v := ?_) rfl (by kernel_rfl) (by kernel_rfl) (by kernel_rfl) (fun _ _ _ h => h) (Or.inl ⟨by kernel_rfl, ?_⟩) (by assumption) ?_
  rotate_left 1
  · (intro w hSw; obtain ⟨hk1, hk2⟩ := hSw; go_simp <;> with_reducible rfl)
  simp only [Act.put, List.getElem_toArray, List.getElem_cons_zero, List.getElem_cons_succ, List.setIfInBounds_toArray, List.set_cons_zero, List.set_cons_succ]
  refine wpAnyH_take (i := 4) (v := ?_) rfl (by kernel_rfl) (by kernel_rfl) (by kernel_rfl) (fun _ _ _ h => h) (Or.inl ⟨by kernel_rfl, ?_⟩) (by assumption) ?_
  rotate_left 1
  · (intro w hSw; obtain ⟨hk1, hk2⟩ := hSw; go_simp <;> with_reducible rfl)
  simp only [Act.put, List.getElem_toArray, List.getElem_cons_zero, List.getElem_cons_succ, List.setIfInBounds_toArray, List.set_cons_zero, List.set_cons_succ]
  refine wpAnyH_take (i := 6) (v := ?_) rfl (by kernel_rfl) (by kernel_rfl) (by kernel_rfl) (fun _ _ _ h => h) (Or.inl ⟨by kernel_rfl, ?_⟩) (by assumption) ?_
  rotate_left 1
  · (intro w hSw; obtain ⟨hk1, hk2⟩ := hSw; go_simp <;> with_reducible rfl)
  simp only [Act.put, List.getElem_toArray, List.getElem_cons_zero, List.getElem_cons_succ, List.setIfInBounds_toArray, List.set_cons_zero, List.set_cons_succ]
  refine wpAnyH_take (i := 7) (v := ?_) rfl (by kernel_rfl) (by kernel_rfl) (by kernel_rfl) (fun _ _ _ h => h) (Or.inl ⟨by kernel_rfl, ?_⟩) (by assumption) ?_
  rotate_left 1
  · (intro w hSw; obtain ⟨hk1, hk2⟩ := hSw; go_simp <;> with_reducible rfl)
  simp only [Act.put, List.getElem_toArray, List.getElem_cons_zero, List.getElem_cons_succ, List.setIfInBounds_toArray, List.set_cons_zero, List.set_cons_succ]
  refine nextH (i := 1) (by kernel_rfl) rfl (fun K hK => ?_)
  go_simp
  refine (HS.out _ (hrW.bel hSd.2)).mono ?_
  rintro e_ w1 ⟨rfl, hbx⟩
  have hS' := kp (bel_tr hSd.2 hSd.2.size hbx)
  try dsimp only
  refine hK _ _ hS' ?_
  clear hK K hSd hbx
  have hSd := hS'
  clear hS'
  refine nextH (i := 3) (by kernel_rfl) rfl (fun K hK => ?_)
  go_simp
  refine (HF.out _).mono ?_
  rintro e_ w_ ⟨rfl, rfl⟩
  try dsimp only
  refine hK _ _ hSd ?_
  clear hK K
  refine nextH (i := 5) (by kernel_rfl) rfl (fun K hK => ?_)
  go_simp
  refine (HT.out _).mono ?_
  rintro e_ w3 ⟨rfl, hbx⟩
  have hS' := kp (bel_tr hSd.2 hSd.2.size hbx)
  try dsimp only
  refine hK _ _ hS' ?_
  clear hK K hSd hbx
  have hSd := hS'
  clear hS'
  refine nextH (i := 8) (by kernel_rfl) rfl (fun K hK => ?_)
  go_simp
  refine (HY.out _).mono ?_
  rintro e_ w4 ⟨rfl, hbx⟩
  have hS' := kp (bel_tr hSd.2 hSd.2.size hbx)
  try dsimp only
  refine hK _ _ hS' ?_
  clear hK K hSd hbx
  have hSd := hS'
  clear hS'
  refine nextH (i := 9) (by kernel_rfl) rfl (fun K hK => ?_)
  go_simp
  refine hK _ _ (kp (bel_alloc hSd.2 hSd.2.size _)) ?_
  clear hK K
  have hS9 := kp (bel_alloc hSd.2 hSd.2.size (.cells #[.int .i64 es, .int .i64 ef, .int .i64 et, .int .i64 ey] 29))
  clear hSd
  have hSd := hS9
  clear hS9
  refine nextH (i := 10) (by kernel_rfl) rfl (fun K hK => ?_)
  go_simp
  refine (firstError_4 _ _ _ _ _).mono ?_
  rintro e_ w_ ⟨rfl, rfl⟩
  try dsimp only
  refine hK _ _ hSd ?_
  clear hK K
  refine nextH (i := 11) (by kernel_rfl) rfl (fun K hK => ?_)
  go_simp
  refine hK _ _ hSd ?_
  clear hK K
  refine wpAnyH_done (by kernel_rfl) ?_ _
  rw [← HE.out]
  obtain ⟨w5, hw5⟩ : ∃ w5, w4.alloc (.cells #[.int .i64 es, .int .i64 ef, .int .i64 et, .int .i64 ey] 29) = w5 := ⟨_, rfl⟩
  rw [hw5] at hSd ⊢
  have hb5 := hSd.2
  have k15 := k1.bel hb5
  have k25 := k2.bel hb5
  have hr5 := hrW.bel hb5
  have hB5 : Below q w w5 := hBW.trans (hb5.mono (by omega))
  have z5 : q ≤ w5.heap.size := by have := hb5.size; omega
  clear hw5 hSd s0 s1 t0 t1 t2 k1 k2 hrW hBW HE HS HF HT HY hb5
  have e1 : (e != 0) = true := by simpa using he
  clear he
  go_wp2
  go_ret2
  exact ⟨rfl, by first | exact hB5 | (rw [hq]; exact hB5)⟩
set_option maxHeartbeats 8000000 in
theorem indexSpans_ok (H f gy lo hi : Int) (A : Option Addr) (c : Nat) (l : List G) (w : World) (hr : Rd w A (gs l)) (he : spaE H f gy lo hi l = 0) :
    Calls Try.prog 69 #[.agg #[.int .i64 H, .slice A l.length c], .int .i64 f, .agg #[.int .i64 gy, .int .i64 lo, .int .i64 hi]] w fun r w' => (∃ A' c', r = .returned (.tuple #[.slice A' l.length c', .int .i64 0]) ∧ Rd w' A' (gs (spnL f gy lo hi l))) ∧ Below w.heap.size w w' := by
  have hz := he
  unfold spaE at hz
  rw [firstE_zero, firstE_zero, firstE_zero, firstE_zero] at hz
  obtain ⟨H0, H1, l0, l1, hok⟩ := skyE_zero hz.1
  have ho := okF hz.2.1 hz.2.2.1 hz.2.2.2.1
  have hl : l.length ≤ 1000 := by omega
  have f0 := ho.f0
  have f1 := ho.f1
  have pb1 := pull_bd ho.y0 ho.y1 ho.hi0 ho.hi1 ho.yf
  have pb2 := pull_bd ho.y0 ho.y1 ho.lo0 ho.lo1 ho.yf
  clear hz ho
  have HS := hide (fun W (h : Rd W A (gs l)) => skyError_c H A c l W h hl)
  have HF := hide (fun W => frequencyError_c f W)
  have HT := hide (fun W => checkField_c gy lo hi W)
  have HY := hide (fun W => gyroError_c f gy lo hi W)
  have HE : Hid (spaE H f gy lo hi l = firstE [(skyE H l).2, freqE f, fieldE gy lo hi, gyroE f gy]) := rfl
  generalize spaE H f gy lo hi l = e at HE he ⊢
  generalize (skyE H l).2 = es at HS HE
  generalize hfq : freqE f = ef at HE
  rw [hfq] at HF
  clear hfq
  generalize fieldE gy lo hi = et at HT HE
  generalize hgq : gyroE f gy = ey at HE
  rw [hgq] at HY
  clear hgq
  obtain ⟨q, hq⟩ : ∃ q, w.heap.size = q := ⟨_, rfl⟩
  obtain ⟨q1, hq1⟩ : ∃ q1, q + 1 = q1 := ⟨_, rfl⟩
  obtain ⟨Wa, hWa⟩ : ∃ Wa, w.alloc (.cells #[.int .i64 H, .slice A l.length c] 24) = Wa := ⟨_, rfl⟩
  have ba : Below w.heap.size w Wa := by rw [← hWa]; exact alloc_bel _ _
  have sa : Wa.heap.size = q1 := by rw [← hWa, ← hq1, ← hq]; simp
  have ka : Blk Wa q 24 [.int .i64 H, .slice A l.length c] := by rw [← hWa, ← hq]; exact Blk.new w _ [_, _]
  obtain ⟨W, hWb⟩ : ∃ W, Wa.alloc (.cells #[.int .i64 gy, .int .i64 lo, .int .i64 hi] 121) = W := ⟨_, rfl⟩
  have bb : Below Wa.heap.size Wa W := by rw [← hWb]; exact alloc_bel _ _
  have k2 : Blk W q1 121 [.int .i64 gy, .int .i64 lo, .int .i64 hi] := by rw [← hWb, ← sa]; exact Blk.new Wa _ [_, _, _]
  have hAB : (w.alloc (.cells #[.int .i64 H, .slice A l.length c] 24)).alloc (.cells #[.int .i64 gy, .int .i64 lo, .int .i64 hi] 121) = W := by rw [hWa, hWb]
  have HW := hide hAB
  have k1 := ka.bel bb
  have hrW := (hr.bel ba).bel bb
  have hBW : Below q w W := by
    rw [hq] at ba
    exact ba.trans (bb.mono (by omega))
  have z1 : q < W.heap.size := k1.lt
  have z2 : q1 < W.heap.size := k2.lt
  clear hAB hWa hWb ba bb ka sa
  have s0 := k1.cell 0; have s1 := k1.cell 1; simp only [List.getElem?_cons_zero, List.getElem?_cons_succ] at s0 s1
  have t0 := k2.cell 0; have t1 := k2.cell 1; have t2 := k2.cell 2; simp only [List.getElem?_cons_zero, List.getElem?_cons_succ] at t0 t1 t2
  go_enter Try.func69, Try.ntmps69
  go_upto_region 1 with fail
  try simp only [World.size_alloc, hq, hq1]
  rw [HW.out]
  have hSd : (∀ b o, b < W.heap.size → W.drew.cell? ⟨b, o, none⟩ = W.cell? ⟨b, o, none⟩) ∧ Below W.heap.size W W.drew := kp (Below.refl _ _).drew
  refine wp_region_held (S := fun w' => (∀ b o, b < W.heap.size → w'.cell? ⟨b, o, none⟩ = W.cell? ⟨b, o, none⟩) ∧ Below W.heap.size W w') (by kernel_rfl) ?_
  change wpAnyH _ _ _ _ _ _ _ _ W.drew
  refine wpAnyH_take (i := 0) (v := ?_) rfl (by kernel_rfl) (by kernel_rfl) (by kernel_rfl) (fun _ _ _ h => h) (Or.inl ⟨by kernel_rfl, ?_⟩) (by assumption) ?_
  rotate_left 1
  · (intro w hSw; obtain ⟨hk1, hk2⟩ := hSw; go_simp <;> with_reducible rfl)
  simp only [Act.put, List.getElem_toArray, List.getElem_cons_zero, List.setIfInBounds_toArray, List.set_cons_zero, List.set_cons_succ]
  refine wpAnyH_take (i := 2) (v := ?_) rfl (by kernel_rfl) (by kernel_rfl) (by kernel_rfl) (fun _ _ _ h => h) (Or.inl ⟨by kernel_rfl, ?_⟩) (by assumption) ?_
  rotate_left 1
  · (intro w hSw; obtain ⟨hk1, hk2⟩ := hSw; go_simp <;> with_reducible rfl)
  simp only [Act.put, List.getElem_toArray, List.getElem_cons_zero, List.getElem_cons_succ, List.setIfInBounds_toArray, List.set_cons_zero, List.set_cons_succ]
  refine wpAnyH_take (i := 4) (v := ?_) rfl (by kernel_rfl) (by kernel_rfl) (by kernel_rfl) (fun _ _ _ h => h) (Or.inl ⟨by kernel_rfl, ?_⟩) (by assumption) ?_
  rotate_left 1
  · (intro w hSw; obtain ⟨hk1, hk2⟩ := hSw; go_simp <;> with_reducible rfl)
  simp only [Act.put, List.getElem_toArray, List.getElem_cons_zero, List.getElem_cons_succ, List.setIfInBounds_toArray, List.set_cons_zero, List.set_cons_succ]
  refine wpAnyH_take (i := 6) (v := ?_) rfl (by kernel_rfl) (by kernel_rfl) (by kernel_rfl) (fun _ _ _ h => h) (Or.inl ⟨by kernel_rfl, ?_⟩) (by assumption) ?_
  rotate_left 1
  · (intro w hSw; obtain ⟨hk1, hk2⟩ := hSw; go_simp <;> with_reducible rfl)
  simp only [Act.put, List.getElem_toArray, List.getElem_cons_zero, List.getElem_cons_succ, List.setIfInBounds_toArray, List.set_cons_zero, List.set_cons_succ]
  refine wpAnyH_take (i := 7) (v := ?_) rfl (by kernel_rfl) (by kernel_rfl) (by kernel_rfl) (fun _ _ _ h => h) (Or.inl ⟨by kernel_rfl, ?_⟩) (by assumption) ?_
  rotate_left 1
  · (intro w hSw; obtain ⟨hk1, hk2⟩ := hSw; go_simp <;> with_reducible rfl)
  simp only [Act.put, List.getElem_toArray, List.getElem_cons_zero, List.getElem_cons_succ, List.setIfInBounds_toArray, List.set_cons_zero, List.set_cons_succ]
  refine nextH (i := 1) (by kernel_rfl) rfl (fun K hK => ?_)
  go_simp
  refine (HS.out _ (hrW.bel hSd.2)).mono ?_
  rintro e_ w1 ⟨rfl, hbx⟩
  have hS' := kp (bel_tr hSd.2 hSd.2.size hbx)
  try dsimp only
  refine hK _ _ hS' ?_
  clear hK K hSd hbx
  have hSd := hS'
  clear hS'
  refine nextH (i := 3) (by kernel_rfl) rfl (fun K hK => ?_)
  go_simp
  refine (HF.out _).mono ?_
  rintro e_ w_ ⟨rfl, rfl⟩
  try dsimp only
  refine hK _ _ hSd ?_
  clear hK K
  refine nextH (i := 5) (by kernel_rfl) rfl (fun K hK => ?_)
  go_simp
  refine (HT.out _).mono ?_
  rintro e_ w3 ⟨rfl, hbx⟩
  have hS' := kp (bel_tr hSd.2 hSd.2.size hbx)
  try dsimp only
  refine hK _ _ hS' ?_
  clear hK K hSd hbx
  have hSd := hS'
  clear hS'
  refine nextH (i := 8) (by kernel_rfl) rfl (fun K hK => ?_)
  go_simp
  refine (HY.out _).mono ?_
  rintro e_ w4 ⟨rfl, hbx⟩
  have hS' := kp (bel_tr hSd.2 hSd.2.size hbx)
  try dsimp only
  refine hK _ _ hS' ?_
  clear hK K hSd hbx
  have hSd := hS'
  clear hS'
  refine nextH (i := 9) (by kernel_rfl) rfl (fun K hK => ?_)
  go_simp
  refine hK _ _ (kp (bel_alloc hSd.2 hSd.2.size _)) ?_
  clear hK K
  have hS9 := kp (bel_alloc hSd.2 hSd.2.size (.cells #[.int .i64 es, .int .i64 ef, .int .i64 et, .int .i64 ey] 29))
  clear hSd
  have hSd := hS9
  clear hS9
  refine nextH (i := 10) (by kernel_rfl) rfl (fun K hK => ?_)
  go_simp
  refine (firstError_4 _ _ _ _ _).mono ?_
  rintro e_ w_ ⟨rfl, rfl⟩
  try dsimp only
  refine hK _ _ hSd ?_
  clear hK K
  refine nextH (i := 11) (by kernel_rfl) rfl (fun K hK => ?_)
  go_simp
  refine hK _ _ hSd ?_
  clear hK K
  refine wpAnyH_done (by kernel_rfl) ?_ _
  rw [← HE.out]
  obtain ⟨w5, hw5⟩ : ∃ w5, w4.alloc (.cells #[.int .i64 es, .int .i64 ef, .int .i64 et, .int .i64 ey] 29) = w5 := ⟨_, rfl⟩
  rw [hw5] at hSd ⊢
  have hb5 := hSd.2
  have k15 := k1.bel hb5
  have k25 := k2.bel hb5
  have hr5 := hrW.bel hb5
  have hB5 : Below q w w5 := hBW.trans (hb5.mono (by omega))
  have z5 : q ≤ w5.heap.size := by have := hb5.size; omega
  clear hw5 hSd s0 s1 t0 t1 t2 k1 k2 hrW hBW HE HS HF HT HY hb5
  have e1 : (e != 0) = false := by simpa using he
  clear he
  have HST := hide (fun k (h : k < l.length) => spnL_set (f := f) (gy := gy) (lo := lo) (hi := hi) h)
  have HSL : Hid (∀ k, k ≤ l.length → (spnL f gy lo hi (l.take k) ++ List.replicate ((l.length - k) * 2) (0, 0)).length = l.length * 2) := fun k hk => by rw [List.length_append, spnL_len, List.length_replicate, List.length_take]; omega
  obtain ⟨P1, hP1⟩ : ∃ P1, hi * gy = P1 := ⟨_, rfl⟩
  obtain ⟨P2, hP2⟩ : ∃ P2, lo * gy = P2 := ⟨_, rfl⟩
  rw [hP1] at pb1
  rw [hP2] at pb2
  have wr1 : IntKind.i64.wrap P1 = P1 := by simp (disch := omega) only [IntWalk.i64_in]
  have wr2 : IntKind.i64.wrap P2 = P2 := by simp (disch := omega) only [IntWalk.i64_in]
  obtain ⟨SP, hSP⟩ : ∃ SP : Nat → List G, ∀ k, SP k = spnL f gy lo hi (l.take k) ++ List.replicate ((l.length - k) * 2) (0, 0) := ⟨_, fun _ => rfl⟩
  have HSP := hide hSP
  have HIX := hide (fun sq p W (h3 : 0 ≤ sq) (h4 : sq ≤ 9000000) p1 p2 p3 => indexWith_c sq f p W f0 f1 h3 h4 p1 p2 p3)
  clear hSP
  have s0 := k15.cell 0; have s1 := k15.cell 1; simp only [List.getElem?_cons_zero, List.getElem?_cons_succ] at s0 s1
  go_upto_region 4 with fail
  have HMK2 := makeSpans l.length hl w5
  obtain ⟨g, hg⟩ : ∃ g, w5.heap.size = g := ⟨_, rfl⟩
  obtain ⟨W3, hW3⟩ : ∃ W3, w5.alloc (.cells (gs (List.replicate (l.length * 2) (0, 0))).toArray 137) = W3 := ⟨_, rfl⟩
  have hB3 : Below g w5 W3 := by rw [← hW3, ← hg]; exact alloc_bel _ _
  have hG3 : Blk W3 g 137 (gs (List.replicate (l.length * 2) (0, 0))) := by rw [← hW3, ← hg]; exact Blk.new w5 _ _
  rw [hW3, hg] at HMK2
  have zq := k15.lt
  have zq1 := k25.lt
  rw [hg] at zq zq1
  have k13 := k15.below hB3 zq
  have k23 := k25.below hB3 zq1
  have hr3 := hr5.below hB3 (by omega)
  have hB3q : Below q w W3 := hB5.trans (hB3.mono (by omega))
  have hgz := hG3.lt
  clear hW3 k15 k25 hr5 hB5 hB3 HW
  have t0 := k13.cell 0; have t1 := k13.cell 1; simp only [List.getElem?_cons_zero, List.getElem?_cons_succ] at t0 t1
  have zq3 := k13.lt
  go_upto_region 6 with fail
  clear HMK2 s0 s1 t0 t1
  go_loopw [33] (fun i wr => ∃ k : Nat, k ≤ l.length ∧ i = .int .i64 k ∧ Below q w wr ∧ Blk wr q1 121 [.int .i64 gy, .int .i64 lo, .int .i64 hi] ∧ Blk wr g 137 (gs (SP k))) (fun i _ => l.length - (intOf i).toNat)
  case atStart => exact ⟨0, Nat.zero_le _, rfl, hB3q, k23, by rw [HSP.out]; simpa [spnL] using hG3⟩
  case round =>
    clear k13 k23 hr3 hB3q hG3 zq3 hgz
    obtain ⟨k, hk, rfl, hBr, kFr, kGr⟩ := hrel
    have hrr := hr.below (w' := wr) hBr (by omega)
    have yF := kFr.lt
    have yG := kGr.lt
    by_cases hlt : k < l.length
    · obtain ⟨b, off, rfl, hbl, d0, d1⟩ := hrr.g_at hlt
      have o := hok _ (List.getElem_mem hlt)
      have HT := HST.out k hlt
      rw [hP1, hP2, ← HSP.out k, ← HSP.out (k + 1)] at HT
      have HX1 := hide (fun W => HIX.out l[k].2 P1 W o.2.2.1 o.2.2.2 pb1.1 pb1.2.1 pb1.2.2)
      have HX2 := hide (fun W => HIX.out l[k].2 P2 W o.2.2.1 o.2.2.2 pb2.1 pb2.2.1 pb2.2.2)
      have hLn := HSL.out k hk
      rw [← HSP.out k] at hLn
      have HTT := hide HT
      clear HT
      generalize idxW l[k].2 f P1 = x at HX1 HTT
      generalize idxW l[k].2 f P2 = y at HX2 HTT
      generalize l[k] = n at d0 d1 HX1 HX2
      generalize SP k = L at kGr hLn HTT
      generalize hSPn : SP (k + 1) = Ln at HTT
      have HLN := hide hSPn
      clear hSPn
      obtain ⟨x1, x2⟩ := x
      obtain ⟨y1, y2⟩ := y
      obtain ⟨n1, n2⟩ := n
      dsimp only at d0 d1 HX1 HX2
      have ik : (k : Int) < (l.length : Int) := by omega
      obtain ⟨v, hv⟩ : ∃ v, wr.heap.size = v := ⟨_, rfl⟩
      go_upto_region 8 with fail
      obtain ⟨w6, hw6⟩ : ∃ w6, wr.alloc (.cells #[.int .i64 n1, .int .i64 n2] 79) = w6 := ⟨_, rfl⟩
      have b6 : Below wr.heap.size wr w6 := by rw [← hw6]; exact alloc_bel _ _
      have kV6 : Blk w6 v 79 [.int .i64 n1, .int .i64 n2] := by rw [← hw6, ← hv]; exact Blk.new wr _ [_, _]
      have kF6 := kFr.bel b6
      have kG6 := kGr.bel b6
      have hB6 : Below q w w6 := hBr.trans (b6.mono (by omega))
      rw [hw6]
      try simp only [hv]
      clear hw6 kFr kGr hBr hrr d0 d1
      have yV := kV6.lt
      have yF6 := kF6.lt
      have yG6 := kG6.lt
      have hvg : ¬ v = g := by omega
      have hvq : ¬ q1 = g := by omega
      have HSb : Hid (∀ W, Below w6.heap.size w6 W → (W.cell? ⟨v, 0, none⟩ = some (.int .i64 n1) ∧ W.cell? ⟨v, 1, none⟩ = some (.int .i64 n2) ∧ W.cell? ⟨q1, 0, none⟩ = some (.int .i64 gy) ∧ W.cell? ⟨q1, 1, none⟩ = some (.int .i64 lo) ∧ W.cell? ⟨q1, 2, none⟩ = some (.int .i64 hi)) ∧ True) := fun W hb => ⟨⟨(kV6.bel hb).cell 0, (kV6.bel hb).cell 1, (kF6.bel hb).cell 0, (kF6.bel hb).cell 1, (kF6.bel hb).cell 2⟩, trivial⟩
      have hbd : Below w6.heap.size w6 w6.drew := (Below.refl _ _).drew
      have hSd := HSb.out _ hbd
      refine wp_region_held (S := fun W => (W.cell? ⟨v, 0, none⟩ = some (.int .i64 n1) ∧ W.cell? ⟨v, 1, none⟩ = some (.int .i64 n2) ∧ W.cell? ⟨q1, 0, none⟩ = some (.int .i64 gy) ∧ W.cell? ⟨q1, 1, none⟩ = some (.int .i64 lo) ∧ W.cell? ⟨q1, 2, none⟩ = some (.int .i64 hi)) ∧ True) (by kernel_rfl) ?_
      change wpAnyH _ _ _ _ _ _ _ _ w6.drew
      refine wpAnyH_take (i := 0) (v := ?_) rfl (by kernel_rfl) (by kernel_rfl) (by kernel_rfl) (fun _ _ _ h => h) (Or.inl ⟨by kernel_rfl, ?_⟩) (by assumption) ?_
      rotate_left 1
      · (intro w hSw; obtain ⟨⟨hk1, hk2, hk3, hk4, hk5⟩, _⟩ := hSw; go_simp <;> with_reducible rfl)
      simp only [Act.put, List.getElem_toArray, List.getElem_cons_zero, List.setIfInBounds_toArray, List.set_cons_zero, List.set_cons_succ]
      refine wpAnyH_take (i := 1) (v := ?_) rfl (by kernel_rfl) (by kernel_rfl) (by kernel_rfl) (fun _ _ _ h => h) (Or.inl ⟨by kernel_rfl, ?_⟩) (by assumption) ?_
      rotate_left 1
      · (intro w hSw; obtain ⟨⟨hk1, hk2, hk3, hk4, hk5⟩, _⟩ := hSw; go_simp <;> with_reducible rfl)
      simp only [Act.put, List.getElem_toArray, List.getElem_cons_zero, List.getElem_cons_succ, List.setIfInBounds_toArray, List.set_cons_zero, List.set_cons_succ]
      refine wpAnyH_take (i := 2) (v := ?_) rfl (by kernel_rfl) (by kernel_rfl) (by kernel_rfl) (fun _ _ _ h => h) (Or.inl ⟨by kernel_rfl, ?_⟩) (by assumption) ?_
      rotate_left 1
      · (intro w hSw; obtain ⟨⟨hk1, hk2, hk3, hk4, hk5⟩, _⟩ := hSw; go_simp <;> with_reducible rfl)
      simp only [Act.put, List.getElem_toArray, List.getElem_cons_zero, List.getElem_cons_succ, List.setIfInBounds_toArray, List.set_cons_zero, List.set_cons_succ]
      refine wpAnyH_take (i := 3) (v := ?_) rfl (by kernel_rfl) (by kernel_rfl) (by kernel_rfl) (fun _ _ _ h => h) (Or.inl ⟨by kernel_rfl, ?_⟩) (by assumption) ?_
      rotate_left 1
      · (intro w hSw; obtain ⟨⟨hk1, hk2, hk3, hk4, hk5⟩, _⟩ := hSw; go_simp <;> with_reducible rfl)
      simp only [Act.put, List.getElem_toArray, List.getElem_cons_zero, List.getElem_cons_succ, List.setIfInBounds_toArray, List.set_cons_zero, List.set_cons_succ]
      refine wpAnyH_take (i := 4) (v := ?_) rfl (by kernel_rfl) (by kernel_rfl) (by kernel_rfl) (fun _ _ _ h => h) (Or.inl ⟨by kernel_rfl, ?_⟩) (by assumption) ?_
      rotate_left 1
      · (intro w hSw; obtain ⟨⟨hk1, hk2, hk3, hk4, hk5⟩, _⟩ := hSw; go_simp <;> with_reducible rfl)
      simp only [Act.put, List.getElem_toArray, List.getElem_cons_zero, List.getElem_cons_succ, List.setIfInBounds_toArray, List.set_cons_zero, List.set_cons_succ]
      refine wpAnyH_take (i := 5) (v := ?_) rfl (by kernel_rfl) (by kernel_rfl) (by kernel_rfl) (fun _ _ _ h => h) (Or.inl ⟨by kernel_rfl, ?_⟩) (by assumption) ?_
      rotate_left 1
      · (intro w hSw; obtain ⟨⟨hk1, hk2, hk3, hk4, hk5⟩, _⟩ := hSw; go_simp <;> with_reducible rfl)
      simp only [Act.put, List.getElem_toArray, List.getElem_cons_zero, List.getElem_cons_succ, List.setIfInBounds_toArray, List.set_cons_zero, List.set_cons_succ]
      refine wpAnyH_take (i := 6) (v := ?_) rfl (by kernel_rfl) (by kernel_rfl) (by kernel_rfl) (fun _ _ _ h => h) (Or.inl ⟨by kernel_rfl, ?_⟩) (by assumption) ?_
      rotate_left 1
      · (intro w hSw; obtain ⟨⟨hk1, hk2, hk3, hk4, hk5⟩, _⟩ := hSw; go_simp <;> with_reducible rfl)
      simp only [Act.put, List.getElem_toArray, List.getElem_cons_zero, List.getElem_cons_succ, List.setIfInBounds_toArray, List.set_cons_zero, List.set_cons_succ]
      refine wpAnyH_take (i := 7) (v := ?_) rfl (by kernel_rfl) (by kernel_rfl) (by kernel_rfl) (fun _ _ _ h => h) (Or.inl ⟨by kernel_rfl, ?_⟩) (by assumption) ?_
      rotate_left 1
      · (intro w hSw; obtain ⟨⟨hk1, hk2, hk3, hk4, hk5⟩, _⟩ := hSw; go_simp <;> with_reducible rfl)
      simp only [Act.put, List.getElem_toArray, List.getElem_cons_zero, List.getElem_cons_succ, List.setIfInBounds_toArray, List.set_cons_zero, List.set_cons_succ]
      refine wpAnyH_take (i := 8) (v := ?_) rfl (by kernel_rfl) (by kernel_rfl) (by kernel_rfl) (fun _ _ _ h => h) (Or.inl ⟨by kernel_rfl, ?_⟩) (by assumption) ?_
      rotate_left 1
      · (intro w hSw; obtain ⟨⟨hk1, hk2, hk3, hk4, hk5⟩, _⟩ := hSw; go_simp <;> with_reducible rfl)
      simp only [Act.put, List.getElem_toArray, List.getElem_cons_zero, List.getElem_cons_succ, List.setIfInBounds_toArray, List.set_cons_zero, List.set_cons_succ]
      refine wpAnyH_take (i := 9) (v := ?_) rfl (by kernel_rfl) (by kernel_rfl) (by kernel_rfl) (fun _ _ _ h => h) (Or.inl ⟨by kernel_rfl, ?_⟩) (by assumption) ?_
      rotate_left 1
      · (intro w hSw; obtain ⟨⟨hk1, hk2, hk3, hk4, hk5⟩, _⟩ := hSw; go_simp <;> with_reducible rfl)
      simp only [Act.put, List.getElem_toArray, List.getElem_cons_zero, List.getElem_cons_succ, List.setIfInBounds_toArray, List.set_cons_zero, List.set_cons_succ]
      refine wpAnyH_take (i := 10) (v := ?_) rfl (by kernel_rfl) (by kernel_rfl) (by kernel_rfl) (fun _ _ _ h => h) (Or.inl ⟨by kernel_rfl, ?_⟩) (by assumption) ?_
      rotate_left 1
      · (intro w hSw; obtain ⟨⟨hk1, hk2, hk3, hk4, hk5⟩, _⟩ := hSw; go_simp <;> with_reducible rfl)
      simp only [Act.put, List.getElem_toArray, List.getElem_cons_zero, List.getElem_cons_succ, List.setIfInBounds_toArray, List.set_cons_zero, List.set_cons_succ]
      refine wpAnyH_take (i := 12) (v := ?_) rfl (by kernel_rfl) (by kernel_rfl) (by kernel_rfl) (fun _ _ _ h => h) (Or.inl ⟨by kernel_rfl, ?_⟩) (by assumption) ?_
      rotate_left 1
      · (intro w hSw; obtain ⟨⟨hk1, hk2, hk3, hk4, hk5⟩, _⟩ := hSw; go_simp <;> with_reducible rfl)
      simp only [Act.put, List.getElem_toArray, List.getElem_cons_zero, List.getElem_cons_succ, List.setIfInBounds_toArray, List.set_cons_zero, List.set_cons_succ]
      refine wpAnyH_take (i := 13) (v := ?_) rfl (by kernel_rfl) (by kernel_rfl) (by kernel_rfl) (fun _ _ _ h => h) (Or.inl ⟨by kernel_rfl, ?_⟩) (by assumption) ?_
      rotate_left 1
      · (intro w hSw; obtain ⟨⟨hk1, hk2, hk3, hk4, hk5⟩, _⟩ := hSw; go_simp <;> with_reducible rfl)
      simp only [Act.put, List.getElem_toArray, List.getElem_cons_zero, List.getElem_cons_succ, List.setIfInBounds_toArray, List.set_cons_zero, List.set_cons_succ]
      refine wpAnyH_take (i := 14) (v := ?_) rfl (by kernel_rfl) (by kernel_rfl) (by kernel_rfl) (fun _ _ _ h => h) (Or.inl ⟨by kernel_rfl, ?_⟩) (by assumption) ?_
      rotate_left 1
      · (intro w hSw; obtain ⟨⟨hk1, hk2, hk3, hk4, hk5⟩, _⟩ := hSw; go_simp <;> with_reducible rfl)
      simp only [Act.put, List.getElem_toArray, List.getElem_cons_zero, List.getElem_cons_succ, List.setIfInBounds_toArray, List.set_cons_zero, List.set_cons_succ]
      refine wpAnyH_take (i := 15) (v := ?_) rfl (by kernel_rfl) (by kernel_rfl) (by kernel_rfl) (fun _ _ _ h => h) (Or.inl ⟨by kernel_rfl, ?_⟩) (by assumption) ?_
      rotate_left 1
      · (intro w hSw; obtain ⟨⟨hk1, hk2, hk3, hk4, hk5⟩, _⟩ := hSw; go_simp <;> with_reducible rfl)
      simp only [Act.put, List.getElem_toArray, List.getElem_cons_zero, List.getElem_cons_succ, List.setIfInBounds_toArray, List.set_cons_zero, List.set_cons_succ]
      refine wpAnyH_take (i := 16) (v := ?_) rfl (by kernel_rfl) (by kernel_rfl) (by kernel_rfl) (fun _ _ _ h => h) (Or.inl ⟨by kernel_rfl, ?_⟩) (by assumption) ?_
      rotate_left 1
      · (intro w hSw; obtain ⟨⟨hk1, hk2, hk3, hk4, hk5⟩, _⟩ := hSw; go_simp <;> with_reducible rfl)
      simp only [Act.put, List.getElem_toArray, List.getElem_cons_zero, List.getElem_cons_succ, List.setIfInBounds_toArray, List.set_cons_zero, List.set_cons_succ]
      refine wpAnyH_take (i := 17) (v := ?_) rfl (by kernel_rfl) (by kernel_rfl) (by kernel_rfl) (fun _ _ _ h => h) (Or.inl ⟨by kernel_rfl, ?_⟩) (by assumption) ?_
      rotate_left 1
      · (intro w hSw; obtain ⟨⟨hk1, hk2, hk3, hk4, hk5⟩, _⟩ := hSw; go_simp <;> with_reducible rfl)
      simp only [Act.put, List.getElem_toArray, List.getElem_cons_zero, List.getElem_cons_succ, List.setIfInBounds_toArray, List.set_cons_zero, List.set_cons_succ]
      refine wpAnyH_take (i := 18) (v := ?_) rfl (by kernel_rfl) (by kernel_rfl) (by kernel_rfl) (fun _ _ _ h => h) (Or.inl ⟨by kernel_rfl, ?_⟩) (by assumption) ?_
      rotate_left 1
      · (intro w hSw; obtain ⟨⟨hk1, hk2, hk3, hk4, hk5⟩, _⟩ := hSw; go_simp <;> with_reducible rfl)
      simp only [Act.put, List.getElem_toArray, List.getElem_cons_zero, List.getElem_cons_succ, List.setIfInBounds_toArray, List.set_cons_zero, List.set_cons_succ]
      refine wpAnyH_take (i := 19) (v := ?_) rfl (by kernel_rfl) (by kernel_rfl) (by kernel_rfl) (fun _ _ _ h => h) (Or.inl ⟨by kernel_rfl, ?_⟩) (by assumption) ?_
      rotate_left 1
      · (intro w hSw; obtain ⟨⟨hk1, hk2, hk3, hk4, hk5⟩, _⟩ := hSw; go_simp <;> with_reducible rfl)
      simp only [Act.put, List.getElem_toArray, List.getElem_cons_zero, List.getElem_cons_succ, List.setIfInBounds_toArray, List.set_cons_zero, List.set_cons_succ]
      refine wpAnyH_take (i := 20) (v := ?_) rfl (by kernel_rfl) (by kernel_rfl) (by kernel_rfl) (fun _ _ _ h => h) (Or.inl ⟨by kernel_rfl, ?_⟩) (by assumption) ?_
      rotate_left 1
      · (intro w hSw; obtain ⟨⟨hk1, hk2, hk3, hk4, hk5⟩, _⟩ := hSw; go_simp <;> with_reducible rfl)
      simp only [Act.put, List.getElem_toArray, List.getElem_cons_zero, List.getElem_cons_succ, List.setIfInBounds_toArray, List.set_cons_zero, List.set_cons_succ]
      refine nextH (i := 11) (by kernel_rfl) rfl (fun K hK => ?_)
      go_simp
      refine (HX1.out _).mono ?_
      rintro e_ w7 ⟨rfl, hb7⟩
      have hb67 := bel_tr hbd hbd.size hb7
      try dsimp only
      refine hK _ _ (HSb.out _ hb67) ?_
      clear hK K hSd
      have hSd := HSb.out _ hb67
      refine nextH (i := 21) (by kernel_rfl) rfl (fun K hK => ?_)
      go_simp
      refine (HX2.out _).mono ?_
      rintro e_ w8 ⟨rfl, hb8⟩
      have hb68 := bel_tr hb67 hb67.size hb8
      try dsimp only
      refine hK _ _ (HSb.out _ hb68) ?_
      clear hK K hSd
      have hSd := HSb.out _ hb68
      refine wpAnyH_take (i := 22) (v := ?_) rfl (by kernel_rfl) (by kernel_rfl) (by kernel_rfl) (fun _ _ _ h => h) (Or.inl ⟨by kernel_rfl, ?_⟩) (by assumption) ?_
      rotate_left 1
      · (intro w hSw; obtain ⟨⟨hk1, hk2, hk3, hk4, hk5⟩, _⟩ := hSw; go_simp <;> with_reducible rfl)
      simp only [Act.put, List.getElem_toArray, List.getElem_cons_zero, List.getElem_cons_succ, List.setIfInBounds_toArray, List.set_cons_zero, List.set_cons_succ]
      refine wpAnyH_take (i := 23) (v := ?_) rfl (by kernel_rfl) (by kernel_rfl) (by kernel_rfl) (fun _ _ _ h => h) (Or.inl ⟨by kernel_rfl, ?_⟩) (by assumption) ?_
      rotate_left 1
      · (intro w hSw; obtain ⟨⟨hk1, hk2, hk3, hk4, hk5⟩, _⟩ := hSw; go_simp <;> with_reducible rfl)
      simp only [Act.put, List.getElem_toArray, List.getElem_cons_zero, List.getElem_cons_succ, List.setIfInBounds_toArray, List.set_cons_zero, List.set_cons_succ]
      have kG8 := kG6.bel hb68
      have kV8 := kV6.bel hb68
      have kF8 := kF6.bel hb68
      have hB8 : Below q w w8 := hB6.trans (hb68.mono (by omega))
      have hk4 : k * 2 + 1 < L.length := by omega
      obtain ⟨a1, a2, a3, a4, c1, c2, c3, c4⟩ := blk_at4 kG8 hk4
      obtain ⟨f0', f1', f2', f3'⟩ : w8.frozen? ⟨g, k * 4, none⟩ = false ∧ w8.frozen? ⟨g, k * 4 + 1, none⟩ = false ∧ w8.frozen? ⟨g, k * 4 + 2, none⟩ = false ∧ w8.frozen? ⟨g, k * 4 + 3, none⟩ = false := ⟨kG8.frozen _, kG8.frozen _, kG8.frozen _, kG8.frozen _⟩
      have yG8 := kG8.lt
      have hst := blk_set4 kG8 hk4 (x1, x2) (y1, y2)
      rw [HTT.out, ← HLN.out] at hst
      dsimp only at hst
      refine nextH (i := 24) (by kernel_rfl) rfl (fun K hK => ?_)
      go_simp
      obtain ⟨W9, hW9⟩ : ∃ W9, (((w8.setCell ⟨g, k * 4, none⟩ (.int .i64 x1)).setCell ⟨g, k * 4 + 1, none⟩ (.int .i64 x2)).setCell ⟨g, k * 4 + 2, none⟩ (.int .i64 y1)).setCell ⟨g, k * 4 + 3, none⟩ (.int .i64 y2) = W9 := ⟨_, rfl⟩
      rw [hW9] at hst ⊢
      have kV9 : Blk W9 v 79 [.int .i64 n1, .int .i64 n2] := by rw [← hW9]; exact (((kV8.far (by show v ≠ g; omega) _).far (by show v ≠ g; omega) _).far (by show v ≠ g; omega) _).far (by show v ≠ g; omega) _
      have kF9 : Blk W9 q1 121 [.int .i64 gy, .int .i64 lo, .int .i64 hi] := by rw [← hW9]; exact (((kF8.far (by show q1 ≠ g; omega) _).far (by show q1 ≠ g; omega) _).far (by show q1 ≠ g; omega) _).far (by show q1 ≠ g; omega) _
      have hB9 : Below q w W9 := by rw [← hW9]; exact (((hB8.setCell (by show q ≤ g; omega) _).setCell (by show q ≤ g; omega) _).setCell (by show q ≤ g; omega) _).setCell (by show q ≤ g; omega) _
      clear hW9 c1 c2 c3 c4 f0' f1' f2' f3' kV8 kF8 kG8 hB8
      refine hK _ _ ⟨⟨kV9.cell 0, kV9.cell 1, kF9.cell 0, kF9.cell 1, kF9.cell 2⟩, trivial⟩ ?_
      clear hK K hSd
      refine wpAnyH_done (by kernel_rfl) ?_ _
      go_wp2
      go_roundw
      case rel => exact ⟨k + 1, by omega, by go_num, hB9, kF9, hst⟩
      case measure => simp [intOf]; omega
    · obtain rfl : k = l.length := by omega
      go_wp2
      go_ret2
      refine ⟨⟨_, _, rfl, ?_⟩, by first | exact hBr | (rw [hq]; exact hBr)⟩
      rw [HSP.out, Nat.sub_self, Nat.zero_mul, List.replicate_zero, List.append_nil, List.take_of_length_le (Nat.le_refl _)] at kGr
      exact kGr.rd (List.prefix_refl _)
/-- The spans, if nothing is wrong. -/
def spaL (H f gy lo hi : Int) (l : List G) : List G := if spaE H f gy lo hi l = 0 then spnL f gy lo hi l else []
def spaN (H f gy lo hi : Int) (l : List G) : Nat := if spaE H f gy lo hi l = 0 then l.length else 0
theorem indexSpans_c (H f gy lo hi : Int) (A : Option Addr) (c : Nat) (l : List G) (w : World) (hr : Rd w A (gs l)) (hl : l.length ≤ 1000) :
    Calls Try.prog 69 #[.agg #[.int .i64 H, .slice A l.length c], .int .i64 f, .agg #[.int .i64 gy, .int .i64 lo, .int .i64 hi]] w fun r w' => (∃ A' c', r = .returned (.tuple #[.slice A' (spaN H f gy lo hi l) c', .int .i64 (spaE H f gy lo hi l)]) ∧ Rd w' A' (gs (spaL H f gy lo hi l))) ∧ Below w.heap.size w w' := by
  by_cases he : spaE H f gy lo hi l = 0
  · unfold spaL spaN
    rw [if_pos he, if_pos he, he]
    exact indexSpans_ok H f gy lo hi A c l w hr he
  · unfold spaL spaN
    rw [if_neg he, if_neg he]
    exact (indexSpans_bad H f gy lo hi A c l w hr hl he).mono fun r w' ⟨h1, h2⟩ => ⟨⟨none, 0, h1, Rd.nil _ _⟩, h2⟩
end Go.Proofs.Ytkcjiejdjdcbeaa
