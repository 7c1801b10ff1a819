/- Contracts: a shot, or its error; the ground distance of a ray, or the errors. -/
import Derived.Test.YtkcjiejdjdcbeaaRy12
set_option linter.unusedSimpArgs false
set_option linter.unusedVariables false
set_option linter.unusedSimpArgs false
set_option linter.unusedVariables false
namespace Go.Proofs.Ytkcjiejdjdcbeaa
open Go.RowKit
set_option maxRecDepth 100000



/-- The error of a ray. -/
def rayE (H f n d : Int) (l : List G) : Int := firstE [(skyE H l).2, shotE f n d]
/-- A shot as a value; the zero one. -/
def shotV (H f n d : Int) (A : Option Addr) (L c : Nat) : Value := .agg #[.int .i64 H, .slice A L c, .int .i64 f, .int .i64 n, .int .i64 d]
theorem blk_fiveF {w : World} {p : Nat} {t : TypeId} {a b c d e : Value} (h : Blk w p t [a, b, c, d, e]) : w.frozen? ⟨p, 0, none⟩ = false ∧ w.frozen? ⟨p, 1, none⟩ = false ∧ w.frozen? ⟨p, 2, none⟩ = false ∧ w.frozen? ⟨p, 3, none⟩ = false ∧ w.frozen? ⟨p, 4, none⟩ = false := ⟨h.frozen 0, h.frozen 1, h.frozen 2, h.frozen 3, h.frozen 4⟩
theorem shotOf_bad (H f n d : Int) (A : Option Addr) (c : Nat) (l : List G) (w : World) (hr : Rd w A (gs l)) (hl : l.length ≤ 1000) (g1 : -9223372036854775808 ≤ n) (g2 : n ≤ 9223372036854775807) (g3 : d ≤ 9223372036854775807) (he : rayE H f n d l ≠ 0) :
    Calls Try.prog 103 #[.agg #[.int .i64 H, .slice A l.length c], .int .i64 f, .agg #[.int .i64 n, .int .i64 d]] w fun r w' => r = .returned (.tuple #[shotV 0 0 0 0 none 0 0, .int .i64 (rayE H f n d l)]) ∧ Below w.heap.size w w' := by
  have HS := hide (fun W (h : Rd W A (gs l)) => skyError_c H A c l W h hl)
  have HT := hide (fun W => shotError_c f n d W g1 g2 g3)
  have HE : Hid (rayE H f n d l = firstE [(skyE H l).2, shotE f n d]) := rfl
  generalize rayE H f n d l = e at HE he ⊢
  generalize (skyE H l).2 = es at HS HE
  generalize shotE f n d = et at HT HE
  obtain ⟨q, hq⟩ : ∃ q, w.heap.size = q := ⟨_, rfl⟩
  obtain ⟨q1, hq1⟩ : ∃ q1, q + 1 = q1 := ⟨_, rfl⟩
  obtain ⟨q2, hq2⟩ : ∃ q2, q1 + 1 = q2 := ⟨_, rfl⟩
  obtain ⟨q3, hq3⟩ : ∃ q3, q2 + 1 = q3 := ⟨_, rfl⟩
  obtain ⟨Wa, hWa⟩ : ∃ Wa, w.alloc (.cells #[.int .i64 H, .slice A l.length c] 24) = Wa := ⟨_, rfl⟩
  have ba : Below w.heap.size w Wa := by rw [← hWa]; exact alloc_bel _ _
  have sa : Wa.heap.size = q1 := by rw [← hWa, ← hq1, ← hq]; simp
  have ka : Blk Wa q 24 [.int .i64 H, .slice A l.length c] := by rw [← hWa, ← hq]; exact Blk.new w _ [_, _]
  obtain ⟨Wb, hWb⟩ : ∃ Wb, Wa.alloc (.cells #[.int .i64 n, .int .i64 d] 26) = Wb := ⟨_, rfl⟩
  have bb : Below Wa.heap.size Wa Wb := by rw [← hWb]; exact alloc_bel _ _
  have sb : Wb.heap.size = q2 := by rw [← hWb, ← hq2, ← sa]; simp
  have kb : Blk Wb q1 26 [.int .i64 n, .int .i64 d] := by rw [← hWb, ← sa]; exact Blk.new Wa _ [_, _]
  obtain ⟨Wc, hWc⟩ : ∃ Wc, Wb.alloc (.cells #[.int .i64 0, .slice none 0 0, .int .i64 0, .int .i64 0, .int .i64 0] 159) = Wc := ⟨_, rfl⟩
  have bc : Below Wb.heap.size Wb Wc := by rw [← hWc]; exact alloc_bel _ _
  have sc : Wc.heap.size = q3 := by rw [← hWc, ← hq3, ← sb]; simp
  have kc : Blk Wc q2 159 [.int .i64 0, .slice none 0 0, .int .i64 0, .int .i64 0, .int .i64 0] := by rw [← hWc, ← sb]; exact Blk.new Wb _ [_, _, _, _, _]
  have hABC : ((w.alloc (.cells #[.int .i64 H, .slice A l.length c] 24)).alloc (.cells #[.int .i64 n, .int .i64 d] 26)).alloc (.cells #[.int .i64 0, .slice none 0 0, .int .i64 0, .int .i64 0, .int .i64 0] 159) = Wc := by rw [hWa, hWb, hWc]
  have HW := hide hABC
  have k1 := (ka.bel bb).bel bc
  have k2 := kb.bel bc
  have hrc := ((hr.bel ba).bel bb).bel bc
  have hBc : Below q w Wc := by
    rw [hq] at ba
    rw [sa] at bb
    rw [sb] at bc
    exact (ba.trans (bb.mono (by omega))).trans (bc.mono (by omega))
  clear hABC hWa hWb hWc ba bb bc ka kb sa sb
  have s0 := k1.cell 0; have s1 := k1.cell 1; simp only [List.getElem?_cons_zero, List.getElem?_cons_succ] at s0 s1
  have t0 := k2.cell 0; have t1 := k2.cell 1; simp only [List.getElem?_cons_zero, List.getElem?_cons_succ] at t0 t1
  go_enter Try.func103, Try.ntmps103
  go_upto_region 1 with fail
  try simp only [World.size_alloc, hq, hq1, hq2]
  rw [HW.out]
  go_upto_region 2 with fail
  obtain ⟨W, hW⟩ : ∃ W, Wc.alloc (.cells #[.int .i64 f, .int .i64 n, .int .i64 d] 123) = W := ⟨_, rfl⟩
  have bd : Below Wc.heap.size Wc W := by rw [← hW]; exact alloc_bel _ _
  have kd : Blk W q3 123 [.int .i64 f, .int .i64 n, .int .i64 d] := by rw [← hW, ← sc]; exact Blk.new Wc _ [_, _, _]
  have k1d := k1.bel bd
  have kcd := kc.bel bd
  have hrW := hrc.bel bd
  have hBW : Below q w W := by
    rw [sc] at bd
    exact hBc.trans (bd.mono (by omega))
  rw [hW]
  try simp only [sc]
  clear hW bd s0 s1 t0 t1 k1 k2 kc hrc hBc sc
  have s0 := k1d.cell 0; have s1 := k1d.cell 1; simp only [List.getElem?_cons_zero, List.getElem?_cons_succ] at s0 s1
  have t0 := kd.cell 0; have t1 := kd.cell 1; have t2 := kd.cell 2; simp only [List.getElem?_cons_zero, List.getElem?_cons_succ] at t0 t1 t2
  have z1 := k1d.lt
  have z3 := kd.lt
  have hSd : (∀ b o, b < W.heap.size → W.drew.cell? ⟨b, o, none⟩ = W.cell? ⟨b, o, none⟩) ∧ Below W.heap.size W W.drew := kp (Below.refl _ _).drew
  refine wp_region_held (S := fun w' => (∀ b o, b < W.heap.size → w'.cell? ⟨b, o, none⟩ = W.cell? ⟨b, o, none⟩) ∧ Below W.heap.size W w') (by kernel_rfl) ?_
  change wpAnyH _ _ _ _ _ _ _ _ W.drew
  refine wpAnyH_take (i := 0) (v := ?_) rfl (by kernel_rfl) (by kernel_rfl) (by kernel_rfl) (fun _ _ _ h => h) (Or.inl ⟨by kernel_rfl, ?_⟩) (by assumption) ?_
  rotate_left 1
  · (intro w hSw; obtain ⟨hk1, hk2⟩ := hSw; go_simp <;> with_reducible rfl)
  simp only [Act.put, List.getElem_toArray, List.getElem_cons_zero, List.setIfInBounds_toArray, List.set_cons_zero, List.set_cons_succ]
  refine wpAnyH_take (i := 2) (v := ?_) rfl (by kernel_rfl) (by kernel_rfl) (by kernel_rfl) (fun _ _ _ h => h) (Or.inl ⟨by kernel_rfl, ?_⟩) (by assumption) ?_
  rotate_left 1
  · (intro w hSw; obtain ⟨hk1, hk2⟩ := hSw; go_simp <;> with_reducible rfl)
  simp only [Act.put, List.getElem_toArray, List.getElem_cons_zero, List.getElem_cons_succ, List.setIfInBounds_toArray, List.set_cons_zero, List.set_cons_succ]
  refine nextH (i := 1) (by kernel_rfl) rfl (fun K hK => ?_)
  go_simp
  refine (HS.out _ (hrW.bel hSd.2)).mono ?_
  rintro e_ w1 ⟨rfl, hbx⟩
  have hS' := kp (bel_tr hSd.2 hSd.2.size hbx)
  try dsimp only
  refine hK _ _ hS' ?_
  clear hK K hSd hbx
  have hSd := hS'
  clear hS'
  refine nextH (i := 3) (by kernel_rfl) rfl (fun K hK => ?_)
  go_simp
  refine (HT.out _).mono ?_
  rintro e_ w2 ⟨rfl, hbx⟩
  have hS' := kp (bel_tr hSd.2 hSd.2.size hbx)
  try dsimp only
  refine hK _ _ hS' ?_
  clear hK K hSd hbx
  have hSd := hS'
  clear hS'
  refine nextH (i := 4) (by kernel_rfl) rfl (fun K hK => ?_)
  go_simp
  refine hK _ _ (kp (bel_alloc hSd.2 hSd.2.size _)) ?_
  clear hK K
  have hS9 := kp (bel_alloc hSd.2 hSd.2.size (.cells #[.int .i64 es, .int .i64 et] 29))
  clear hSd
  have hSd := hS9
  clear hS9
  refine nextH (i := 5) (by kernel_rfl) rfl (fun K hK => ?_)
  go_simp
  refine (firstError_2 _ _ _).mono ?_
  rintro e_ w_ ⟨rfl, rfl⟩
  try dsimp only
  refine hK _ _ hSd ?_
  clear hK K
  refine nextH (i := 6) (by kernel_rfl) rfl (fun K hK => ?_)
  go_simp
  refine hK _ _ hSd ?_
  clear hK K
  refine wpAnyH_done (by kernel_rfl) ?_ _
  rw [← HE.out]
  obtain ⟨w3, hw3⟩ : ∃ w3, w2.alloc (.cells #[.int .i64 es, .int .i64 et] 29) = w3 := ⟨_, rfl⟩
  rw [hw3] at hSd ⊢
  have hb3 := hSd.2
  have k13 := k1d.bel hb3
  have kc3 := kcd.bel hb3
  have kd3 := kd.bel hb3
  have hB3 : Below q w w3 := hBW.trans (hb3.mono (by omega))
  clear hw3 hSd s0 s1 t0 t1 t2 k1d kcd kd hrW hBW HE HS HT hb3
  have s0 := k13.cell 0; have s1 := k13.cell 1; simp only [List.getElem?_cons_zero, List.getElem?_cons_succ] at s0 s1
  have t0 := kd3.cell 0; have t1 := kd3.cell 1; have t2 := kd3.cell 2; simp only [List.getElem?_cons_zero, List.getElem?_cons_succ] at t0 t1 t2
  obtain ⟨c0, c1, c2, c3, c4⟩ := blk_five kc3
  obtain ⟨f0, f1, f2, f3, f4⟩ := blk_fiveF kc3
  have e1 : (e != 0) = true := by simpa using he
  clear he
  go_wp2
  obtain ⟨WE, hWE⟩ : ∃ WE, ((((w3.setCell ⟨q2, 0, none⟩ (.int .i64 (0))).setCell ⟨q2, 1, none⟩ (.slice none 0 0)).setCell ⟨q2, 2, none⟩ (.int .i64 (0))).setCell ⟨q2, 3, none⟩ (.int .i64 (0))).setCell ⟨q2, 4, none⟩ (.int .i64 (0)) = WE := ⟨_, rfl⟩
  rw [hWE]
  have hE : Blk WE q2 159 [.int .i64 (0), .slice none 0 0, .int .i64 (0), .int .i64 (0), .int .i64 (0)] := by rw [← hWE]; exact ((((kc3.set_ 0 _).set_ 1 _).set_ 2 _).set_ 3 _).set_ 4 _
  have hqq : q ≤ q2 := by omega
  have hBE : Below q w WE := by rw [← hWE]; exact ((((hB3.setCell hqq _).setCell hqq _).setCell hqq _).setCell hqq _).setCell hqq _
  clear hWE c0 c1 c2 c3 c4 f0 f1 f2 f3 f4 kc3
  have g0 := hE.cell 0; have g1 := hE.cell 1; have g2 := hE.cell 2; have g3 := hE.cell 3; have g4 := hE.cell 4; simp only [List.getElem?_cons_zero, List.getElem?_cons_succ] at g0 g1 g2 g3 g4
  exact bodyPost_ret (v := .tuple #[.agg #[.int .i64 0, .slice none 0 0, .int .i64 0, .int .i64 0, .int .i64 0], .int .i64 e]) (by simp [results, Try.results103, go_sem, g0, g1, g2, g3, g4]; try rfl) rfl ⟨rfl, by first | exact hBE | (rw [hq]; exact hBE)⟩
theorem shotOf_ok (H f n d : Int) (A : Option Addr) (c : Nat) (l : List G) (w : World) (hr : Rd w A (gs l)) (hl : l.length ≤ 1000) (g1 : -9223372036854775808 ≤ n) (g2 : n ≤ 9223372036854775807) (g3 : d ≤ 9223372036854775807) (he : rayE H f n d l = 0) :
    Calls Try.prog 103 #[.agg #[.int .i64 H, .slice A l.length c], .int .i64 f, .agg #[.int .i64 n, .int .i64 d]] w fun r w' => r = .returned (.tuple #[shotV H f n d A l.length c, .int .i64 0]) ∧ Below w.heap.size w w' := by
  have HS := hide (fun W (h : Rd W A (gs l)) => skyError_c H A c l W h hl)
  have HT := hide (fun W => shotError_c f n d W g1 g2 g3)
  have HE : Hid (rayE H f n d l = firstE [(skyE H l).2, shotE f n d]) := rfl
  generalize rayE H f n d l = e at HE he ⊢
  generalize (skyE H l).2 = es at HS HE
  generalize shotE f n d = et at HT HE
  obtain ⟨q, hq⟩ : ∃ q, w.heap.size = q := ⟨_, rfl⟩
  obtain ⟨q1, hq1⟩ : ∃ q1, q + 1 = q1 := ⟨_, rfl⟩
  obtain ⟨q2, hq2⟩ : ∃ q2, q1 + 1 = q2 := ⟨_, rfl⟩
  obtain ⟨q3, hq3⟩ : ∃ q3, q2 + 1 = q3 := ⟨_, rfl⟩
  obtain ⟨Wa, hWa⟩ : ∃ Wa, w.alloc (.cells #[.int .i64 H, .slice A l.length c] 24) = Wa := ⟨_, rfl⟩
  have ba : Below w.heap.size w Wa := by rw [← hWa]; exact alloc_bel _ _
  have sa : Wa.heap.size = q1 := by rw [← hWa, ← hq1, ← hq]; simp
  have ka : Blk Wa q 24 [.int .i64 H, .slice A l.length c] := by rw [← hWa, ← hq]; exact Blk.new w _ [_, _]
  obtain ⟨Wb, hWb⟩ : ∃ Wb, Wa.alloc (.cells #[.int .i64 n, .int .i64 d] 26) = Wb := ⟨_, rfl⟩
  have bb : Below Wa.heap.size Wa Wb := by rw [← hWb]; exact alloc_bel _ _
  have sb : Wb.heap.size = q2 := by rw [← hWb, ← hq2, ← sa]; simp
  have kb : Blk Wb q1 26 [.int .i64 n, .int .i64 d] := by rw [← hWb, ← sa]; exact Blk.new Wa _ [_, _]
  obtain ⟨Wc, hWc⟩ : ∃ Wc, Wb.alloc (.cells #[.int .i64 0, .slice none 0 0, .int .i64 0, .int .i64 0, .int .i64 0] 159) = Wc := ⟨_, rfl⟩
  have bc : Below Wb.heap.size Wb Wc := by rw [← hWc]; exact alloc_bel _ _
  have sc : Wc.heap.size = q3 := by rw [← hWc, ← hq3, ← sb]; simp
  have kc : Blk Wc q2 159 [.int .i64 0, .slice none 0 0, .int .i64 0, .int .i64 0, .int .i64 0] := by rw [← hWc, ← sb]; exact Blk.new Wb _ [_, _, _, _, _]
  have hABC : ((w.alloc (.cells #[.int .i64 H, .slice A l.length c] 24)).alloc (.cells #[.int .i64 n, .int .i64 d] 26)).alloc (.cells #[.int .i64 0, .slice none 0 0, .int .i64 0, .int .i64 0, .int .i64 0] 159) = Wc := by rw [hWa, hWb, hWc]
  have HW := hide hABC
  have k1 := (ka.bel bb).bel bc
  have k2 := kb.bel bc
  have hrc := ((hr.bel ba).bel bb).bel bc
  have hBc : Below q w Wc := by
    rw [hq] at ba
    rw [sa] at bb
    rw [sb] at bc
    exact (ba.trans (bb.mono (by omega))).trans (bc.mono (by omega))
  clear hABC hWa hWb hWc ba bb bc ka kb sa sb
  have s0 := k1.cell 0; have s1 := k1.cell 1; simp only [List.getElem?_cons_zero, List.getElem?_cons_succ] at s0 s1
  have t0 := k2.cell 0; have t1 := k2.cell 1; simp only [List.getElem?_cons_zero, List.getElem?_cons_succ] at t0 t1
  go_enter Try.func103, Try.ntmps103
  go_upto_region 1 with fail
  try simp only [World.size_alloc, hq, hq1, hq2]
  rw [HW.out]
  go_upto_region 2 with fail
  obtain ⟨W, hW⟩ : ∃ W, Wc.alloc (.cells #[.int .i64 f, .int .i64 n, .int .i64 d] 123) = W := ⟨_, rfl⟩
  have bd : Below Wc.heap.size Wc W := by rw [← hW]; exact alloc_bel _ _
  have kd : Blk W q3 123 [.int .i64 f, .int .i64 n, .int .i64 d] := by rw [← hW, ← sc]; exact Blk.new Wc _ [_, _, _]
  have k1d := k1.bel bd
  have kcd := kc.bel bd
  have hrW := hrc.bel bd
  have hBW : Below q w W := by
    rw [sc] at bd
    exact hBc.trans (bd.mono (by omega))
  rw [hW]
  try simp only [sc]
  clear hW bd s0 s1 t0 t1 k1 k2 kc hrc hBc sc
  have s0 := k1d.cell 0; have s1 := k1d.cell 1; simp only [List.getElem?_cons_zero, List.getElem?_cons_succ] at s0 s1
  have t0 := kd.cell 0; have t1 := kd.cell 1; have t2 := kd.cell 2; simp only [List.getElem?_cons_zero, List.getElem?_cons_succ] at t0 t1 t2
  have z1 := k1d.lt
  have z3 := kd.lt
  have hSd : (∀ b o, b < W.heap.size → W.drew.cell? ⟨b, o, none⟩ = W.cell? ⟨b, o, none⟩) ∧ Below W.heap.size W W.drew := kp (Below.refl _ _).drew
  refine wp_region_held (S := fun w' => (∀ b o, b < W.heap.size → w'.cell? ⟨b, o, none⟩ = W.cell? ⟨b, o, none⟩) ∧ Below W.heap.size W w') (by kernel_rfl) ?_
  change wpAnyH _ _ _ _ _ _ _ _ W.drew
  refine wpAnyH_take (i := 0) (v := ?_) rfl (by kernel_rfl) (by kernel_rfl) (by kernel_rfl) (fun _ _ _ h => h) (Or.inl ⟨by kernel_rfl, ?_⟩) (by assumption) ?_
  rotate_left 1
  · (intro w hSw; obtain ⟨hk1, hk2⟩ := hSw; go_simp <;> with_reducible rfl)
  simp only [Act.put, List.getElem_toArray, List.getElem_cons_zero, List.setIfInBounds_toArray, List.set_cons_zero, List.set_cons_succ]
  refine wpAnyH_take (i := 2) (v := ?_) rfl (by kernel_rfl) (by kernel_rfl) (by kernel_rfl) (fun _ _ _ h => h) (Or.inl ⟨by kernel_rfl, ?_⟩) (by assumption) ?_
  rotate_left 1
  · (intro w hSw; obtain ⟨hk1, hk2⟩ := hSw; go_simp <;> with_reducible rfl)
  simp only [Act.put, List.getElem_toArray, List.getElem_cons_zero, List.getElem_cons_succ, List.setIfInBounds_toArray, List.set_cons_zero, List.set_cons_succ]
  refine nextH (i := 1) (by kernel_rfl) rfl (fun K hK => ?_)
  go_simp
  refine (HS.out _ (hrW.bel hSd.2)).mono ?_
  rintro e_ w1 ⟨rfl, hbx⟩
  have hS' := kp (bel_tr hSd.2 hSd.2.size hbx)
  try dsimp only
  refine hK _ _ hS' ?_
  clear hK K hSd hbx
  have hSd := hS'
  clear hS'
  refine nextH (i := 3) (by kernel_rfl) rfl (fun K hK => ?_)
  go_simp
  refine (HT.out _).mono ?_
  rintro e_ w2 ⟨rfl, hbx⟩
  have hS' := kp (bel_tr hSd.2 hSd.2.size hbx)
  try dsimp only
  refine hK _ _ hS' ?_
  clear hK K hSd hbx
  have hSd := hS'
  clear hS'
  refine nextH (i := 4) (by kernel_rfl) rfl (fun K hK => ?_)
  go_simp
  refine hK _ _ (kp (bel_alloc hSd.2 hSd.2.size _)) ?_
  clear hK K
  have hS9 := kp (bel_alloc hSd.2 hSd.2.size (.cells #[.int .i64 es, .int .i64 et] 29))
  clear hSd
  have hSd := hS9
  clear hS9
  refine nextH (i := 5) (by kernel_rfl) rfl (fun K hK => ?_)
  go_simp
  refine (firstError_2 _ _ _).mono ?_
  rintro e_ w_ ⟨rfl, rfl⟩
  try dsimp only
  refine hK _ _ hSd ?_
  clear hK K
  refine nextH (i := 6) (by kernel_rfl) rfl (fun K hK => ?_)
  go_simp
  refine hK _ _ hSd ?_
  clear hK K
  refine wpAnyH_done (by kernel_rfl) ?_ _
  rw [← HE.out]
  obtain ⟨w3, hw3⟩ : ∃ w3, w2.alloc (.cells #[.int .i64 es, .int .i64 et] 29) = w3 := ⟨_, rfl⟩
  rw [hw3] at hSd ⊢
  have hb3 := hSd.2
  have k13 := k1d.bel hb3
  have kc3 := kcd.bel hb3
  have kd3 := kd.bel hb3
  have hB3 : Below q w w3 := hBW.trans (hb3.mono (by omega))
  clear hw3 hSd s0 s1 t0 t1 t2 k1d kcd kd hrW hBW HE HS HT hb3
  have s0 := k13.cell 0; have s1 := k13.cell 1; simp only [List.getElem?_cons_zero, List.getElem?_cons_succ] at s0 s1
  have t0 := kd3.cell 0; have t1 := kd3.cell 1; have t2 := kd3.cell 2; simp only [List.getElem?_cons_zero, List.getElem?_cons_succ] at t0 t1 t2
  obtain ⟨c0, c1, c2, c3, c4⟩ := blk_five kc3
  obtain ⟨f0, f1, f2, f3, f4⟩ := blk_fiveF kc3
  have e1 : (e != 0) = false := by simpa using he
  clear he
  go_wp2
  obtain ⟨WE, hWE⟩ : ∃ WE, ((((w3.setCell ⟨q2, 0, none⟩ (.int .i64 (H))).setCell ⟨q2, 1, none⟩ (.slice A l.length c)).setCell ⟨q2, 2, none⟩ (.int .i64 (f))).setCell ⟨q2, 3, none⟩ (.int .i64 (n))).setCell ⟨q2, 4, none⟩ (.int .i64 (d)) = WE := ⟨_, rfl⟩
  rw [hWE]
  have hE : Blk WE q2 159 [.int .i64 (H), .slice A l.length c, .int .i64 (f), .int .i64 (n), .int .i64 (d)] := by rw [← hWE]; exact ((((kc3.set_ 0 _).set_ 1 _).set_ 2 _).set_ 3 _).set_ 4 _
  have hqq : q ≤ q2 := by omega
  have hBE : Below q w WE := by rw [← hWE]; exact ((((hB3.setCell hqq _).setCell hqq _).setCell hqq _).setCell hqq _).setCell hqq _
  clear hWE c0 c1 c2 c3 c4 f0 f1 f2 f3 f4 kc3
  have g0 := hE.cell 0; have g1 := hE.cell 1; have g2 := hE.cell 2; have g3 := hE.cell 3; have g4 := hE.cell 4; simp only [List.getElem?_cons_zero, List.getElem?_cons_succ] at g0 g1 g2 g3 g4
  exact bodyPost_ret (v := .tuple #[.agg #[.int .i64 H, .slice A l.length c, .int .i64 f, .int .i64 n, .int .i64 d], .int .i64 0]) (by simp [results, Try.results103, go_sem, g0, g1, g2, g3, g4]; try rfl) rfl ⟨rfl, by first | exact hBE | (rw [hq]; exact hBE)⟩
end Go.Proofs.Ytkcjiejdjdcbeaa
