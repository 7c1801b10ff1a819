/- Contracts: whether a shot is reflected with a field, or the errors. -/
import Derived.Test.YtkcjiejdjdcbeaaRy20
set_option linter.unusedSimpArgs false
set_option linter.unusedVariables false
set_option linter.unusedSimpArgs false
set_option linter.unusedVariables false
namespace Go.Proofs.Ytkcjiejdjdcbeaa
open Go.RowKit
set_option maxRecDepth 100000



/-- The error of a sky, a field and a shot. -/
def refE (H gy lo hi f n d : Int) (l : List G) : Int := firstE [(skyE H l).2, fieldE gy lo hi, shotE f n d, gyroE f gy]
def ansB : Bool → Bool → Int
  | true, true => 2
  | false, false => 0
  | _, _ => 1
/-- Whether a shot is reflected with a field, and the error. -/
def refQ (H gy lo hi f n d : Int) (l : List G) : Int × Int :=
  if refE H gy lo hi f n d l ≠ 0 then (0, refE H gy lo hi f n d l) else (ansB (l.any (hitW f n d gy lo)) (l.any (hitW f n d gy hi)), 0)
theorem refE_zero {H gy lo hi f n d : Int} {l : List G} (h : refE H gy lo hi f n d l = 0) : OkR H f n d l ∧ 0 ≤ gy ∧ gy ≤ 300 ∧ -100 ≤ lo ∧ lo ≤ 100 ∧ -100 ≤ hi ∧ hi ≤ 100 ∧ lo ≤ hi ∧ gy < f := by
  unfold refE at h
  rw [firstE_zero, firstE_zero, firstE_zero, firstE_zero] at h
  obtain ⟨a1, a2, a3, a4, _⟩ := h
  have hr : OkR H f n d l := okR (by unfold rayE; rw [firstE_zero, firstE_zero]; exact ⟨a1, a3, rfl⟩)
  unfold fieldE at a2
  rw [firstE_zero, firstE_zero, firstE_zero, errIf_none (by decide), errIf_none (by decide), errIf_none (by decide), Bool.or_eq_false_iff, decide_eq_false_iff_not] at a2
  obtain ⟨b1, ⟨b2, b3⟩, b4, _⟩ := a2
  unfold gyroE at a4
  rw [errIf_none (by decide), decide_eq_false_iff_not] at a4
  have c1 := outB_false.1 b1
  have c2 := outB_false.1 b2
  have c3 := outB_false.1 b3
  exact ⟨hr, by omega, by omega, by omega, by omega, by omega, by omega, by omega, by omega⟩
set_option maxHeartbeats 4000000 in
theorem reflectsWith_bad (H gy lo hi f n d : Int) (A : Option Addr) (c : Nat) (l : List G) (w : World) (hr : Rd w A (gs l)) (hl : l.length ≤ 1000) (g1 : -9223372036854775808 ≤ n) (g2 : n ≤ 9223372036854775807) (g3 : d ≤ 9223372036854775807) (he : refE H gy lo hi f n d l ≠ 0) :
    Calls Try.prog 70 #[.agg #[.int .i64 H, .slice A l.length c], .agg #[.int .i64 gy, .int .i64 lo, .int .i64 hi], .agg #[.int .i64 f, .int .i64 n, .int .i64 d]] w fun r w' => r = .returned (.tuple #[.int .i64 (refQ H gy lo hi f n d l).1, .int .i64 (refQ H gy lo hi f n d l).2]) ∧ Below w.heap.size w w' := by
  have HR : Hid (refQ H gy lo hi f n d l = (0, refE H gy lo hi f n d l)) := by show _ = _; unfold refQ; rw [if_pos he]
  have HS := hide (fun W (h : Rd W A (gs l)) => skyError_c H A c l W h hl)
  have HF := hide (fun W => checkField_c gy lo hi W)
  have HT := hide (fun W => shotError_c f n d W g1 g2 g3)
  have HY := hide (fun W => gyroError_c f gy lo hi W)
  have HE : Hid (refE H gy lo hi f n d l = firstE [(skyE H l).2, fieldE gy lo hi, shotE f n d, gyroE f gy]) := rfl
  generalize refE H gy lo hi f n d l = e at HE he HR
  generalize (skyE H l).2 = es at HS HE
  generalize fieldE gy lo hi = ef at HF HE
  generalize shotE f n d = et at HT HE
  generalize gyroE f gy = ey at HY HE
  have e1 : (e != 0) = true := by simpa using he
  clear he
  obtain ⟨q, hq⟩ : ∃ q, w.heap.size = q := ⟨_, rfl⟩
  obtain ⟨q1, hq1⟩ : ∃ q1, q + 1 = q1 := ⟨_, rfl⟩
  obtain ⟨q2, hq2⟩ : ∃ q2, q1 + 1 = q2 := ⟨_, rfl⟩
  obtain ⟨Wa, hWa⟩ : ∃ Wa, w.alloc (.cells #[.int .i64 H, .slice A l.length c] 24) = Wa := ⟨_, rfl⟩
  have ba : Below w.heap.size w Wa := by rw [← hWa]; exact alloc_bel _ _
  have sa : Wa.heap.size = q1 := by rw [← hWa, ← hq1, ← hq]; simp
  have ka : Blk Wa q 24 [.int .i64 H, .slice A l.length c] := by rw [← hWa, ← hq]; exact Blk.new w _ [_, _]
  obtain ⟨Wb, hWb⟩ : ∃ Wb, Wa.alloc (.cells #[.int .i64 gy, .int .i64 lo, .int .i64 hi] 121) = Wb := ⟨_, rfl⟩
  have bb : Below Wa.heap.size Wa Wb := by rw [← hWb]; exact alloc_bel _ _
  have sb : Wb.heap.size = q2 := by rw [← hWb, ← hq2, ← sa]; simp
  have kb : Blk Wb q1 121 [.int .i64 gy, .int .i64 lo, .int .i64 hi] := by rw [← hWb, ← sa]; exact Blk.new Wa _ [_, _, _]
  obtain ⟨W, hWc⟩ : ∃ W, Wb.alloc (.cells #[.int .i64 f, .int .i64 n, .int .i64 d] 123) = W := ⟨_, rfl⟩
  have bc : Below Wb.heap.size Wb W := by rw [← hWc]; exact alloc_bel _ _
  have kc : Blk W q2 123 [.int .i64 f, .int .i64 n, .int .i64 d] := by rw [← hWc, ← sb]; exact Blk.new Wb _ _
  have hABC : ((w.alloc (.cells #[.int .i64 H, .slice A l.length c] 24)).alloc (.cells #[.int .i64 gy, .int .i64 lo, .int .i64 hi] 121)).alloc (.cells #[.int .i64 f, .int .i64 n, .int .i64 d] 123) = W := by rw [hWa, hWb, hWc]
  have HW := hide hABC
  have k1 := (ka.bel bb).bel bc
  have k2 := kb.bel bc
  have hrW := ((hr.bel ba).bel bb).bel bc
  have hBW : Below q w W := by
    rw [hq] at ba
    rw [sa] at bb
    rw [sb] at bc
    exact (ba.trans (bb.mono (by omega))).trans (bc.mono (by omega))
  have z1 : q < W.heap.size := k1.lt
  have z2 : q1 < W.heap.size := k2.lt
  have z3 : q2 < W.heap.size := kc.lt
  clear hABC hWa hWb hWc ba bb bc ka kb sa sb
  have s0 := k1.cell 0; have s1 := k1.cell 1; simp only [List.getElem?_cons_zero, List.getElem?_cons_succ] at s0 s1
  have t0 := k2.cell 0; have t1 := k2.cell 1; have t2 := k2.cell 2; simp only [List.getElem?_cons_zero, List.getElem?_cons_succ] at t0 t1 t2
  have u0 := kc.cell 0; have u1 := kc.cell 1; have u2 := kc.cell 2; simp only [List.getElem?_cons_zero, List.getElem?_cons_succ] at u0 u1 u2
  go_enter Try.func70, Try.ntmps70
  go_upto_region 1 with fail
  try simp only [World.size_alloc, hq, hq1, hq2]
  rw [HW.out]
  have hSd : (∀ b o, b < W.heap.size → W.drew.cell? ⟨b, o, none⟩ = W.cell? ⟨b, o, none⟩) ∧ Below W.heap.size W W.drew := kp (Below.refl _ _).drew
  refine wp_region_held (S := fun w' => (∀ b o, b < W.heap.size → w'.cell? ⟨b, o, none⟩ = W.cell? ⟨b, o, none⟩) ∧ Below W.heap.size W w') (by kernel_rfl) ?_
  change wpAnyH _ _ _ _ _ _ _ _ W.drew
  refine wpAnyH_take (i := 0) (v := ?_) rfl (by kernel_rfl) (by kernel_rfl) (by kernel_rfl) (fun _ _ _ h => h) (Or.inl ⟨by kernel_rfl, ?_⟩) (by assumption) ?_
  rotate_left 1
  · (intro w hSw; obtain ⟨hk1, hk2⟩ := hSw; go_simp <;> with_reducible rfl)
  simp only [Act.put, List.getElem_toArray, List.getElem_cons_zero, List.setIfInBounds_toArray, List.set_cons_zero, List.set_cons_succ]
  refine wpAnyH_take (i := 2) (v := ?_) rfl (by kernel_rfl) (by kernel_rfl) (by kernel_rfl) (fun _ _ _ h => h) (Or.inl ⟨by kernel_rfl, ?_⟩) (by assumption) ?_
  rotate_left 1
  · (intro w hSw; obtain ⟨hk1, hk2⟩ := hSw; go_simp <;> with_reducible rfl)
  simp only [Act.put, List.getElem_toArray, List.getElem_cons_zero, List.getElem_cons_succ, List.setIfInBounds_toArray, List.set_cons_zero, List.set_cons_succ]
  refine wpAnyH_take (i := 4) (v := ?_) rfl (by kernel_rfl) (by kernel_rfl) (by kernel_rfl) (fun _ _ _ h => h) (Or.inl ⟨by kernel_rfl, ?_⟩) (by assumption) ?_
  rotate_left 1
  · (intro w hSw; obtain ⟨hk1, hk2⟩ := hSw; go_simp <;> with_reducible rfl)
  simp only [Act.put, List.getElem_toArray, List.getElem_cons_zero, List.getElem_cons_succ, List.setIfInBounds_toArray, List.set_cons_zero, List.set_cons_succ]
  refine wpAnyH_take (i := 6) (v := ?_) rfl (by kernel_rfl) (by kernel_rfl) (by kernel_rfl) (fun _ _ _ h => h) (Or.inl ⟨by kernel_rfl, ?_⟩) (by assumption) ?_
  rotate_left 1
  · (intro w hSw; obtain ⟨hk1, hk2⟩ := hSw; go_simp <;> with_reducible rfl)
  simp only [Act.put, List.getElem_toArray, List.getElem_cons_zero, List.getElem_cons_succ, List.setIfInBounds_toArray, List.set_cons_zero, List.set_cons_succ]
  refine wpAnyH_take (i := 7) (v := ?_) rfl (by kernel_rfl) (by kernel_rfl) (by kernel_rfl) (fun _ _ _ h => h) (Or.inl ⟨by kernel_rfl, ?_⟩) (by assumption) ?_
  rotate_left 1
  · (intro w hSw; obtain ⟨hk1, hk2⟩ := hSw; go_simp <;> with_reducible rfl)
  simp only [Act.put, List.getElem_toArray, List.getElem_cons_zero, List.getElem_cons_succ, List.setIfInBounds_toArray, List.set_cons_zero, List.set_cons_succ]
  refine wpAnyH_take (i := 8) (v := ?_) rfl (by kernel_rfl) (by kernel_rfl) (by kernel_rfl) (fun _ _ _ h => h) (Or.inl ⟨by kernel_rfl, ?_⟩) (by assumption) ?_
  rotate_left 1
  · (intro w hSw; obtain ⟨hk1, hk2⟩ := hSw; go_simp <;> with_reducible rfl)
  simp only [Act.put, List.getElem_toArray, List.getElem_cons_zero, List.getElem_cons_succ, List.setIfInBounds_toArray, List.set_cons_zero, List.set_cons_succ]
  refine nextH (i := 1) (by kernel_rfl) rfl (fun K hK => ?_)
  go_simp
  refine (HS.out _ (hrW.bel hSd.2)).mono ?_
  rintro e_ w1 ⟨rfl, hbx⟩
  have hS' := kp (bel_tr hSd.2 hSd.2.size hbx)
  try dsimp only
  refine hK _ _ hS' ?_
  clear hK K hSd hbx
  have hSd := hS'
  clear hS'
  refine nextH (i := 3) (by kernel_rfl) rfl (fun K hK => ?_)
  go_simp
  refine (HF.out _).mono ?_
  rintro e_ w2 ⟨rfl, hbx⟩
  have hS' := kp (bel_tr hSd.2 hSd.2.size hbx)
  try dsimp only
  refine hK _ _ hS' ?_
  clear hK K hSd hbx
  have hSd := hS'
  clear hS'
  refine nextH (i := 5) (by kernel_rfl) rfl (fun K hK => ?_)
  go_simp
  refine (HT.out _).mono ?_
  rintro e_ w3 ⟨rfl, hbx⟩
  have hS' := kp (bel_tr hSd.2 hSd.2.size hbx)
  try dsimp only
  refine hK _ _ hS' ?_
  clear hK K hSd hbx
  have hSd := hS'
  clear hS'
  refine nextH (i := 9) (by kernel_rfl) rfl (fun K hK => ?_)
  go_simp
  refine (HY.out _).mono ?_
  rintro e_ w4 ⟨rfl, hbx⟩
  have hS' := kp (bel_tr hSd.2 hSd.2.size hbx)
  try dsimp only
  refine hK _ _ hS' ?_
  clear hK K hSd hbx
  have hSd := hS'
  clear hS'
  refine nextH (i := 10) (by kernel_rfl) rfl (fun K hK => ?_)
  go_simp
  refine hK _ _ (kp (bel_alloc hSd.2 hSd.2.size _)) ?_
  clear hK K
  have hS9 := kp (bel_alloc hSd.2 hSd.2.size (.cells #[.int .i64 es, .int .i64 ef, .int .i64 et, .int .i64 ey] 29))
  clear hSd
  have hSd := hS9
  clear hS9
  refine nextH (i := 11) (by kernel_rfl) rfl (fun K hK => ?_)
  go_simp
  refine (firstError_4 _ _ _ _ _).mono ?_
  rintro e_ w_ ⟨rfl, rfl⟩
  try dsimp only
  refine hK _ _ hSd ?_
  clear hK K
  refine nextH (i := 12) (by kernel_rfl) rfl (fun K hK => ?_)
  go_simp
  refine hK _ _ hSd ?_
  clear hK K
  refine wpAnyH_done (by kernel_rfl) ?_ _
  rw [← HE.out]
  obtain ⟨w5, hw5⟩ : ∃ w5, w4.alloc (.cells #[.int .i64 es, .int .i64 ef, .int .i64 et, .int .i64 ey] 29) = w5 := ⟨_, rfl⟩
  rw [hw5] at hSd ⊢
  have hb5 := hSd.2
  have k15 := k1.bel hb5
  have k25 := k2.bel hb5
  have k35 := kc.bel hb5
  have hr5 := hrW.bel hb5
  have hB5 : Below q w w5 := hBW.trans (hb5.mono (by omega))
  have z5 : q ≤ w5.heap.size := by have := hb5.size; omega
  clear hw5 hSd s0 s1 t0 t1 t2 u0 u1 u2 k1 k2 kc hrW hBW HE HS HF HT HY hb5
  go_wp2
  go_ret2
  exact ⟨by rw [HR.out]; rfl, by first | exact hB5 | (rw [hq]; exact hB5)⟩
set_option maxHeartbeats 4000000 in
theorem reflectsWith_ok (H gy lo hi f n d : Int) (A : Option Addr) (c : Nat) (l : List G) (w : World) (hr : Rd w A (gs l)) (he : refE H gy lo hi f n d l = 0) :
    Calls Try.prog 70 #[.agg #[.int .i64 H, .slice A l.length c], .agg #[.int .i64 gy, .int .i64 lo, .int .i64 hi], .agg #[.int .i64 f, .int .i64 n, .int .i64 d]] w fun r w' => r = .returned (.tuple #[.int .i64 (refQ H gy lo hi f n d l).1, .int .i64 (refQ H gy lo hi f n d l).2]) ∧ Below w.heap.size w w' := by
  have hz := refE_zero he
  obtain ⟨ho, y0, y1, l0, l1, h0, h1, hlh, hgf⟩ := hz
  have hl : l.length ≤ 1000 := by have := ho.l1; omega
  have g1 : -9223372036854775808 ≤ n := by have := ho.n0; omega
  have g2 : n ≤ 9223372036854775807 := by have := ho.n1; have := ho.d1; omega
  have g3 : d ≤ 9223372036854775807 := by have := ho.d1; omega
  have HR : Hid (refQ H gy lo hi f n d l = (ansB (l.any (hitW f n d gy lo)) (l.any (hitW f n d gy hi)), 0)) := by show _ = _; unfold refQ; rw [if_neg (by rw [he]; simp)]
  have HLO := hide (fun W s q e (h : Rd W A (gs l)) k0 k1 k3 => reflects1_c H f n d gy lo hi lo s q e A c l W h hl ho.ok k0 k1 k3 ho.f0 ho.f1 ho.n0 (by have := ho.n1; have := ho.d1; omega) ho.d0 ho.d1 y0 y1 hgf l0 l1)
  have HHI := hide (fun W s q e (h : Rd W A (gs l)) k0 k1 k3 => reflects1_c H f n d gy lo hi hi s q e A c l W h hl ho.ok k0 k1 k3 ho.f0 ho.f1 ho.n0 (by have := ho.n1; have := ho.d1; omega) ho.d0 ho.d1 y0 y1 hgf h0 h1)
  clear ho y0 y1 l0 l1 h0 h1 hlh hgf
  have HS := hide (fun W (h : Rd W A (gs l)) => skyError_c H A c l W h hl)
  have HF := hide (fun W => checkField_c gy lo hi W)
  have HT := hide (fun W => shotError_c f n d W g1 g2 g3)
  have HY := hide (fun W => gyroError_c f gy lo hi W)
  have HE : Hid (refE H gy lo hi f n d l = firstE [(skyE H l).2, fieldE gy lo hi, shotE f n d, gyroE f gy]) := rfl
  generalize refE H gy lo hi f n d l = e at HE he HR
  generalize (skyE H l).2 = es at HS HE
  generalize fieldE gy lo hi = ef at HF HE
  generalize shotE f n d = et at HT HE
  generalize gyroE f gy = ey at HY HE
  have e1 : (e != 0) = false := by simpa using he
  clear he
  obtain ⟨q, hq⟩ : ∃ q, w.heap.size = q := ⟨_, rfl⟩
  obtain ⟨q1, hq1⟩ : ∃ q1, q + 1 = q1 := ⟨_, rfl⟩
  obtain ⟨q2, hq2⟩ : ∃ q2, q1 + 1 = q2 := ⟨_, rfl⟩
  obtain ⟨Wa, hWa⟩ : ∃ Wa, w.alloc (.cells #[.int .i64 H, .slice A l.length c] 24) = Wa := ⟨_, rfl⟩
  have ba : Below w.heap.size w Wa := by rw [← hWa]; exact alloc_bel _ _
  have sa : Wa.heap.size = q1 := by rw [← hWa, ← hq1, ← hq]; simp
  have ka : Blk Wa q 24 [.int .i64 H, .slice A l.length c] := by rw [← hWa, ← hq]; exact Blk.new w _ [_, _]
  obtain ⟨Wb, hWb⟩ : ∃ Wb, Wa.alloc (.cells #[.int .i64 gy, .int .i64 lo, .int .i64 hi] 121) = Wb := ⟨_, rfl⟩
  have bb : Below Wa.heap.size Wa Wb := by rw [← hWb]; exact alloc_bel _ _
  have sb : Wb.heap.size = q2 := by rw [← hWb, ← hq2, ← sa]; simp
  have kb : Blk Wb q1 121 [.int .i64 gy, .int .i64 lo, .int .i64 hi] := by rw [← hWb, ← sa]; exact Blk.new Wa _ [_, _, _]
  obtain ⟨W, hWc⟩ : ∃ W, Wb.alloc (.cells #[.int .i64 f, .int .i64 n, .int .i64 d] 123) = W := ⟨_, rfl⟩
  have bc : Below Wb.heap.size Wb W := by rw [← hWc]; exact alloc_bel _ _
  have kc : Blk W q2 123 [.int .i64 f, .int .i64 n, .int .i64 d] := by rw [← hWc, ← sb]; exact Blk.new Wb _ _
  have hABC : ((w.alloc (.cells #[.int .i64 H, .slice A l.length c] 24)).alloc (.cells #[.int .i64 gy, .int .i64 lo, .int .i64 hi] 121)).alloc (.cells #[.int .i64 f, .int .i64 n, .int .i64 d] 123) = W := by rw [hWa, hWb, hWc]
  have HW := hide hABC
  have k1 := (ka.bel bb).bel bc
  have k2 := kb.bel bc
  have hrW := ((hr.bel ba).bel bb).bel bc
  have hBW : Below q w W := by
    rw [hq] at ba
    rw [sa] at bb
    rw [sb] at bc
    exact (ba.trans (bb.mono (by omega))).trans (bc.mono (by omega))
  have z1 : q < W.heap.size := k1.lt
  have z2 : q1 < W.heap.size := k2.lt
  have z3 : q2 < W.heap.size := kc.lt
  clear hABC hWa hWb hWc ba bb bc ka kb sa sb
  have s0 := k1.cell 0; have s1 := k1.cell 1; simp only [List.getElem?_cons_zero, List.getElem?_cons_succ] at s0 s1
  have t0 := k2.cell 0; have t1 := k2.cell 1; have t2 := k2.cell 2; simp only [List.getElem?_cons_zero, List.getElem?_cons_succ] at t0 t1 t2
  have u0 := kc.cell 0; have u1 := kc.cell 1; have u2 := kc.cell 2; simp only [List.getElem?_cons_zero, List.getElem?_cons_succ] at u0 u1 u2
  go_enter Try.func70, Try.ntmps70
  go_upto_region 1 with fail
  try simp only [World.size_alloc, hq, hq1, hq2]
  rw [HW.out]
  have hSd : (∀ b o, b < W.heap.size → W.drew.cell? ⟨b, o, none⟩ = W.cell? ⟨b, o, none⟩) ∧ Below W.heap.size W W.drew := kp (Below.refl _ _).drew
  refine wp_region_held (S := fun w' => (∀ b o, b < W.heap.size → w'.cell? ⟨b, o, none⟩ = W.cell? ⟨b, o, none⟩) ∧ Below W.heap.size W w') (by kernel_rfl) ?_
  change wpAnyH _ _ _ _ _ _ _ _ W.drew
  refine wpAnyH_take (i := 0) (v := ?_) rfl (by kernel_rfl) (by kernel_rfl) (by kernel_rfl) (fun _ _ _ h => h) (Or.inl ⟨by kernel_rfl, ?_⟩) (by assumption) ?_
  rotate_left 1
  · (intro w hSw; obtain ⟨hk1, hk2⟩ := hSw; go_simp <;> with_reducible rfl)
  simp only [Act.put, List.getElem_toArray, List.getElem_cons_zero, List.setIfInBounds_toArray, List.set_cons_zero, List.set_cons_succ]
  refine wpAnyH_take (i := 2) (v := ?_) rfl (by kernel_rfl) (by kernel_rfl) (by kernel_rfl) (fun _ _ _ h => h) (Or.inl ⟨by kernel_rfl, ?_⟩) (by assumption) ?_
  rotate_left 1
  · (intro w hSw; obtain ⟨hk1, hk2⟩ := hSw; go_simp <;> with_reducible rfl)
  simp only [Act.put, List.getElem_toArray, List.getElem_cons_zero, List.getElem_cons_succ, List.setIfInBounds_toArray, List.set_cons_zero, List.set_cons_succ]
  refine wpAnyH_take (i := 4) (v := ?_) rfl (by kernel_rfl) (by kernel_rfl) (by kernel_rfl) (fun _ _ _ h => h) (Or.inl ⟨by kernel_rfl, ?_⟩) (by assumption) ?_
  rotate_left 1
  · (intro w hSw; obtain ⟨hk1, hk2⟩ := hSw; go_simp <;> with_reducible rfl)
  simp only [Act.put, List.getElem_toArray, List.getElem_cons_zero, List.getElem_cons_succ, List.setIfInBounds_toArray, List.set_cons_zero, List.set_cons_succ]
  refine wpAnyH_take (i := 6) (v := ?_) rfl (by kernel_rfl) (by kernel_rfl) (by kernel_rfl) (fun _ _ _ h => h) (Or.inl ⟨by kernel_rfl, ?_⟩) (by assumption) ?_
  rotate_left 1
  · (intro w hSw; obtain ⟨hk1, hk2⟩ := hSw; go_simp <;> with_reducible rfl)
  simp only [Act.put, List.getElem_toArray, List.getElem_cons_zero, List.getElem_cons_succ, List.setIfInBounds_toArray, List.set_cons_zero, List.set_cons_succ]
  refine wpAnyH_take (i := 7) (v := ?_) rfl (by kernel_rfl) (by kernel_rfl) (by kernel_rfl) (fun _ _ _ h => h) (Or.inl ⟨by kernel_rfl, ?_⟩) (by assumption) ?_
  rotate_left 1
  · (intro w hSw; obtain ⟨hk1, hk2⟩ := hSw; go_simp <;> with_reducible rfl)
  simp only [Act.put, List.getElem_toArray, List.getElem_cons_zero, List.getElem_cons_succ, List.setIfInBounds_toArray, List.set_cons_zero, List.set_cons_succ]
  refine wpAnyH_take (i := 8) (v := ?_) rfl (by kernel_rfl) (by kernel_rfl) (by kernel_rfl) (fun _ _ _ h => h) (Or.inl ⟨by kernel_rfl, ?_⟩) (by assumption) ?_
  rotate_left 1
  · (intro w hSw; obtain ⟨hk1, hk2⟩ := hSw; go_simp <;> with_reducible rfl)
  simp only [Act.put, List.getElem_toArray, List.getElem_cons_zero, List.getElem_cons_succ, List.setIfInBounds_toArray, List.set_cons_zero, List.set_cons_succ]
  refine nextH (i := 1) (by kernel_rfl) rfl (fun K hK => ?_)
  go_simp
  refine (HS.out _ (hrW.bel hSd.2)).mono ?_
  rintro e_ w1 ⟨rfl, hbx⟩
  have hS' := kp (bel_tr hSd.2 hSd.2.size hbx)
  try dsimp only
  refine hK _ _ hS' ?_
  clear hK K hSd hbx
  have hSd := hS'
  clear hS'
  refine nextH (i := 3) (by kernel_rfl) rfl (fun K hK => ?_)
  go_simp
  refine (HF.out _).mono ?_
  rintro e_ w2 ⟨rfl, hbx⟩
  have hS' := kp (bel_tr hSd.2 hSd.2.size hbx)
  try dsimp only
  refine hK _ _ hS' ?_
  clear hK K hSd hbx
  have hSd := hS'
  clear hS'
  refine nextH (i := 5) (by kernel_rfl) rfl (fun K hK => ?_)
  go_simp
  refine (HT.out _).mono ?_
  rintro e_ w3 ⟨rfl, hbx⟩
  have hS' := kp (bel_tr hSd.2 hSd.2.size hbx)
  try dsimp only
  refine hK _ _ hS' ?_
  clear hK K hSd hbx
  have hSd := hS'
  clear hS'
  refine nextH (i := 9) (by kernel_rfl) rfl (fun K hK => ?_)
  go_simp
  refine (HY.out _).mono ?_
  rintro e_ w4 ⟨rfl, hbx⟩
  have hS' := kp (bel_tr hSd.2 hSd.2.size hbx)
  try dsimp only
  refine hK _ _ hS' ?_
  clear hK K hSd hbx
  have hSd := hS'
  clear hS'
  refine nextH (i := 10) (by kernel_rfl) rfl (fun K hK => ?_)
  go_simp
  refine hK _ _ (kp (bel_alloc hSd.2 hSd.2.size _)) ?_
  clear hK K
  have hS9 := kp (bel_alloc hSd.2 hSd.2.size (.cells #[.int .i64 es, .int .i64 ef, .int .i64 et, .int .i64 ey] 29))
  clear hSd
  have hSd := hS9
  clear hS9
  refine nextH (i := 11) (by kernel_rfl) rfl (fun K hK => ?_)
  go_simp
  refine (firstError_4 _ _ _ _ _).mono ?_
  rintro e_ w_ ⟨rfl, rfl⟩
  try dsimp only
  refine hK _ _ hSd ?_
  clear hK K
  refine nextH (i := 12) (by kernel_rfl) rfl (fun K hK => ?_)
  go_simp
  refine hK _ _ hSd ?_
  clear hK K
  refine wpAnyH_done (by kernel_rfl) ?_ _
  rw [← HE.out]
  obtain ⟨w5, hw5⟩ : ∃ w5, w4.alloc (.cells #[.int .i64 es, .int .i64 ef, .int .i64 et, .int .i64 ey] 29) = w5 := ⟨_, rfl⟩
  rw [hw5] at hSd ⊢
  have hb5 := hSd.2
  have k15 := k1.bel hb5
  have k25 := k2.bel hb5
  have k35 := kc.bel hb5
  have hr5 := hrW.bel hb5
  have hB5 : Below q w w5 := hBW.trans (hb5.mono (by omega))
  have z5 : q ≤ w5.heap.size := by have := hb5.size; omega
  clear hw5 hSd s0 s1 t0 t1 t2 u0 u1 u2 k1 k2 kc hrW hBW HE HS HF HT HY hb5
  generalize l.any (hitW f n d gy lo) = va at HLO HR
  generalize l.any (hitW f n d gy hi) = vb at HHI HR
  have t0 := k25.cell 0; have t1 := k25.cell 1; have t2 := k25.cell 2; simp only [List.getElem?_cons_zero, List.getElem?_cons_succ] at t0 t1 t2
  have zt := k25.lt
  go_upto_region 5 with fail
  have hSd : (∀ b o, b < w5.heap.size → w5.drew.cell? ⟨b, o, none⟩ = w5.cell? ⟨b, o, none⟩) ∧ Below w5.heap.size w5 w5.drew := kp (Below.refl _ _).drew
  refine wp_region_held (S := fun w' => (∀ b o, b < w5.heap.size → w'.cell? ⟨b, o, none⟩ = w5.cell? ⟨b, o, none⟩) ∧ Below w5.heap.size w5 w') (by kernel_rfl) ?_
  change wpAnyH _ _ _ _ _ _ _ _ w5.drew
  refine wpAnyH_take (i := 0) (v := ?_) rfl (by kernel_rfl) (by kernel_rfl) (by kernel_rfl) (fun _ _ _ h => h) (Or.inl ⟨by kernel_rfl, ?_⟩) (by assumption) ?_
  rotate_left 1
  · (intro w hSw; obtain ⟨hk1, hk2⟩ := hSw; go_simp <;> with_reducible rfl)
  simp only [Act.put, List.getElem_toArray, List.getElem_cons_zero, List.setIfInBounds_toArray, List.set_cons_zero, List.set_cons_succ]
  refine wpAnyH_take (i := 1) (v := ?_) rfl (by kernel_rfl) (by kernel_rfl) (by kernel_rfl) (fun _ _ _ h => h) (Or.inl ⟨by kernel_rfl, ?_⟩) (by assumption) ?_
  rotate_left 1
  · (intro w hSw; obtain ⟨hk1, hk2⟩ := hSw; go_simp <;> with_reducible rfl)
  simp only [Act.put, List.getElem_toArray, List.getElem_cons_zero, List.getElem_cons_succ, List.setIfInBounds_toArray, List.set_cons_zero, List.set_cons_succ]
  refine wpAnyH_take (i := 2) (v := ?_) rfl (by kernel_rfl) (by kernel_rfl) (by kernel_rfl) (fun _ _ _ h => h) (Or.inl ⟨by kernel_rfl, ?_⟩) (by assumption) ?_
  rotate_left 1
  · (intro w hSw; obtain ⟨hk1, hk2⟩ := hSw; go_simp <;> with_reducible rfl)
  simp only [Act.put, List.getElem_toArray, List.getElem_cons_zero, List.getElem_cons_succ, List.setIfInBounds_toArray, List.set_cons_zero, List.set_cons_succ]
  refine wpAnyH_take (i := 3) (v := ?_) rfl (by kernel_rfl) (by kernel_rfl) (by kernel_rfl) (fun _ _ _ h => h) (Or.inl ⟨by kernel_rfl, ?_⟩) (by assumption) ?_
  rotate_left 1
  · (intro w hSw; obtain ⟨hk1, hk2⟩ := hSw; go_simp <;> with_reducible rfl)
  simp only [Act.put, List.getElem_toArray, List.getElem_cons_zero, List.getElem_cons_succ, List.setIfInBounds_toArray, List.set_cons_zero, List.set_cons_succ]
  refine wpAnyH_take (i := 5) (v := ?_) rfl (by kernel_rfl) (by kernel_rfl) (by kernel_rfl) (fun _ _ _ h => h) (Or.inl ⟨by kernel_rfl, ?_⟩) (by assumption) ?_
  rotate_left 1
  · (intro w hSw; obtain ⟨hk1, hk2⟩ := hSw; go_simp <;> with_reducible rfl)
  simp only [Act.put, List.getElem_toArray, List.getElem_cons_zero, List.getElem_cons_succ, List.setIfInBounds_toArray, List.set_cons_zero, List.set_cons_succ]
  refine wpAnyH_take (i := 6) (v := ?_) rfl (by kernel_rfl) (by kernel_rfl) (by kernel_rfl) (fun _ _ _ h => h) (Or.inl ⟨by kernel_rfl, ?_⟩) (by assumption) ?_
  rotate_left 1
  · (intro w hSw; obtain ⟨hk1, hk2⟩ := hSw; go_simp <;> with_reducible rfl)
  simp only [Act.put, List.getElem_toArray, List.getElem_cons_zero, List.getElem_cons_succ, List.setIfInBounds_toArray, List.set_cons_zero, List.set_cons_succ]
  refine wpAnyH_take (i := 7) (v := ?_) rfl (by kernel_rfl) (by kernel_rfl) (by kernel_rfl) (fun _ _ _ h => h) (Or.inl ⟨by kernel_rfl, ?_⟩) (by assumption) ?_
  rotate_left 1
  · (intro w hSw; obtain ⟨hk1, hk2⟩ := hSw; go_simp <;> with_reducible rfl)
  simp only [Act.put, List.getElem_toArray, List.getElem_cons_zero, List.getElem_cons_succ, List.setIfInBounds_toArray, List.set_cons_zero, List.set_cons_succ]
  refine wpAnyH_take (i := 8) (v := ?_) rfl (by kernel_rfl) (by kernel_rfl) (by kernel_rfl) (fun _ _ _ h => h) (Or.inl ⟨by kernel_rfl, ?_⟩) (by assumption) ?_
  rotate_left 1
  · (intro w hSw; obtain ⟨hk1, hk2⟩ := hSw; go_simp <;> with_reducible rfl)
  simp only [Act.put, List.getElem_toArray, List.getElem_cons_zero, List.getElem_cons_succ, List.setIfInBounds_toArray, List.set_cons_zero, List.set_cons_succ]
  refine nextH (i := 4) (by kernel_rfl) rfl (fun K hK => ?_)
  go_simp
  refine (HLO.out _ _ _ _ (hr5.bel hSd.2) (k15.bel hSd.2) (k35.bel hSd.2) (k25.bel hSd.2)).mono ?_
  rintro e_ w6 ⟨rfl, hbx⟩
  have hS' := kp (bel_tr hSd.2 hSd.2.size hbx)
  try dsimp only
  refine hK _ _ hS' ?_
  clear hK K hSd hbx
  have hSd := hS'
  clear hS'
  refine nextH (i := 9) (by kernel_rfl) rfl (fun K hK => ?_)
  go_simp
  refine (HHI.out _ _ _ _ (hr5.bel hSd.2) (k15.bel hSd.2) (k35.bel hSd.2) (k25.bel hSd.2)).mono ?_
  rintro e_ w7 ⟨rfl, hbx⟩
  have hS' := kp (bel_tr hSd.2 hSd.2.size hbx)
  try dsimp only
  refine hK _ _ hS' ?_
  clear hK K hSd hbx
  have hSd := hS'
  clear hS'
  refine wpAnyH_take (i := 10) (v := ?_) rfl (by kernel_rfl) (by kernel_rfl) (by kernel_rfl) (fun _ _ _ h => h) (Or.inl ⟨by kernel_rfl, ?_⟩) (by assumption) ?_
  rotate_left 1
  · (intro w hSw; obtain ⟨hk1, hk2⟩ := hSw; go_simp <;> with_reducible rfl)
  simp only [Act.put, List.getElem_toArray, List.getElem_cons_zero, List.getElem_cons_succ, List.setIfInBounds_toArray, List.set_cons_zero, List.set_cons_succ]
  refine wpAnyH_take (i := 11) (v := ?_) rfl (by kernel_rfl) (by kernel_rfl) (by kernel_rfl) (fun _ _ _ h => h) (Or.inl ⟨by kernel_rfl, ?_⟩) (by assumption) ?_
  rotate_left 1
  · (intro w hSw; obtain ⟨hk1, hk2⟩ := hSw; go_simp <;> with_reducible rfl)
  simp only [Act.put, List.getElem_toArray, List.getElem_cons_zero, List.getElem_cons_succ, List.setIfInBounds_toArray, List.set_cons_zero, List.set_cons_succ]
  refine wpAnyH_done (by kernel_rfl) ?_ _
  have hB7 : Below q w w7 := hB5.trans (hSd.2.mono z5)
  cases va <;> cases vb
  all_goals (
    go_wp2
    go_ret2
    exact ⟨by rw [HR.out]; rfl, by first | exact hB7 | (rw [hq]; exact hB7)⟩)
theorem reflectsWith_c (H gy lo hi f n d : Int) (A : Option Addr) (c : Nat) (l : List G) (w : World) (hr : Rd w A (gs l)) (hl : l.length ≤ 1000) (g1 : -9223372036854775808 ≤ n) (g2 : n ≤ 9223372036854775807) (g3 : d ≤ 9223372036854775807) :
    Calls Try.prog 70 #[.agg #[.int .i64 H, .slice A l.length c], .agg #[.int .i64 gy, .int .i64 lo, .int .i64 hi], .agg #[.int .i64 f, .int .i64 n, .int .i64 d]] w fun r w' => r = .returned (.tuple #[.int .i64 (refQ H gy lo hi f n d l).1, .int .i64 (refQ H gy lo hi f n d l).2]) ∧ Below w.heap.size w w' := by
  by_cases he : refE H gy lo hi f n d l = 0
  · exact reflectsWith_ok H gy lo hi f n d A c l w hr he
  · exact reflectsWith_bad H gy lo hi f n d A c l w hr hl g1 g2 g3 he
end Go.Proofs.Ytkcjiejdjdcbeaa
