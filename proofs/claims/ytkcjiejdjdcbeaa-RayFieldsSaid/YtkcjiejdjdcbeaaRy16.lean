/- Contracts: the secant frequency of a launch. -/
import Derived.Test.YtkcjiejdjdcbeaaRy15
set_option linter.unusedSimpArgs false
set_option linter.unusedVariables false
set_option linter.unusedSimpArgs false
set_option linter.unusedVariables false
namespace Go.Proofs.Ytkcjiejdjdcbeaa
open Go.RowKit
set_option maxRecDepth 100000



def secE (H n d : Int) (l : List G) : Int := firstE [(skyE H l).2, launchE n d]
/-- The secant frequency of a launch, and the error. -/
def secQ (H n d : Int) (l : List G) : Int × Int := if secE H n d l ≠ 0 then (0, secE H n d l) else (min (rootN (grsQ l * d / (d - n)).toNat : Int) 3000, 0)
theorem secE_zero {H n d : Int} {l : List G} (h : secE H n d l = 0) : (1 ≤ H ∧ H ≤ 500 ∧ 1 ≤ l.length ∧ l.length ≤ 12 ∧ OkS l) ∧ 1 ≤ d ∧ d ≤ 100 ∧ 0 ≤ n ∧ n < d ∧ Int.gcd n d = 1 := by
  unfold secE at h
  rw [firstE_zero, firstE_zero] at h
  exact ⟨skyE_zero h.1, launchE_zero h.2.1⟩
set_option maxHeartbeats 4000000 in
theorem secantOf_c (H n d : Int) (A : Option Addr) (c : Nat) (l : List G) (w : World) (hr : Rd w A (gs l)) (hl : l.length ≤ 1000) (g1 : -9223372036854775808 ≤ n) (g2 : n ≤ 9223372036854775807) (g3 : d ≤ 9223372036854775807) :
    Calls Try.prog 21 #[.agg #[.int .i64 H, .slice A l.length c], .agg #[.int .i64 n, .int .i64 d]] w fun r w' => r = .returned (.tuple #[.int .i64 (secQ H n d l).1, .int .i64 (secQ H n d l).2]) ∧ Below w.heap.size w w' := by
  have HS := hide (fun W (h : Rd W A (gs l)) => skyError_c H A c l W h hl)
  have HT := hide (fun W => launchError_c n d W g1 g2 g3)
  have HE : Hid (secE H n d l = firstE [(skyE H l).2, launchE n d]) := rfl
  have HQ : Hid (secQ H n d l = if secE H n d l ≠ 0 then (0, secE H n d l) else (min (rootN (grsQ l * d / (d - n)).toNat : Int) 3000, 0)) := rfl
  have HOK := hide (fun h : secE H n d l = 0 => secE_zero h)
  generalize secE H n d l = e at HE HQ HOK
  generalize (skyE H l).2 = es at HS HE
  generalize launchE n d = et at HT HE
  by_cases he : e = 0
  · obtain ⟨⟨o1, o2, o3, o4, o5⟩, d0, d1, n0, n1, _⟩ := HOK.out he
    obtain ⟨m0, m1⟩ := grsQ_ok o5
    have HG := hide (fun W (h : Rd W A (gs l)) => greatestSquare_c H A c l W h hl)
    have HQ2 : Hid (secQ H n d l = (min (rootN (grsQ l * d / (d - n)).toNat : Int) 3000, 0)) := by show _ = _; rw [HQ.out, if_neg (by rw [he]; simp)]
    generalize grsQ l = g at HG HQ2 m0 m1
    have mm := mul_bd m0 m1 (show 0 ≤ d by omega) d1
    generalize hgd : g * d = gd at HQ2 mm
    have q1' : Int.tdiv gd (d - n) = gd / (d - n) := Int.tdiv_eq_ediv_of_nonneg mm.1
    have q2 := Int.ediv_nonneg mm.1 (show 0 ≤ d - n by omega)
    have q3 := Int.ediv_le_self (d - n) mm.1
    have HR := hide (fun W => rootBelow_c (gd / (d - n)) W q2 (by omega))
    generalize (rootN (gd / (d - n)).toNat : Int) = rt at HR HQ2
    generalize gd / (d - n) = qq at HR q1' q2 q3
    have e1 : (e != 0) = false := by simp [he]
    have e2 : ¬ d - n = 0 := by omega
    have e3 : ¬ d - n = -1 := by omega
    have hqq : 0 ≤ qq ∧ qq ≤ 900000000 := by omega
    have wd : IntKind.i64.wrap (d - n) = d - n := by simp (disch := omega) only [IntWalk.i64_in]
    have wg : IntKind.i64.wrap gd = gd := by simp (disch := omega) only [IntWalk.i64_in]
    have wq : IntKind.i64.wrap qq = qq := by simp (disch := omega) only [IntWalk.i64_in]
    clear he HQ HOK o1 o2 o3 o4 o5 q2 q3
    obtain ⟨q, hq⟩ : ∃ q, w.heap.size = q := ⟨_, rfl⟩
    obtain ⟨q1, hq1⟩ : ∃ q1, q + 1 = q1 := ⟨_, rfl⟩
    obtain ⟨Wa, hWa⟩ : ∃ Wa, w.alloc (.cells #[.int .i64 H, .slice A l.length c] 24) = Wa := ⟨_, rfl⟩
    have ba : Below w.heap.size w Wa := by rw [← hWa]; exact alloc_bel _ _
    have sa : Wa.heap.size = q1 := by rw [← hWa, ← hq1, ← hq]; simp
    have ka : Blk Wa q 24 [.int .i64 H, .slice A l.length c] := by rw [← hWa, ← hq]; exact Blk.new w _ [_, _]
    obtain ⟨W, hWb⟩ : ∃ W, Wa.alloc (.cells #[.int .i64 n, .int .i64 d] 26) = W := ⟨_, rfl⟩
    have bb : Below Wa.heap.size Wa W := by rw [← hWb]; exact alloc_bel _ _
    have k2 : Blk W q1 26 [.int .i64 n, .int .i64 d] := by rw [← hWb, ← sa]; exact Blk.new Wa _ [_, _]
    have hABC : (w.alloc (.cells #[.int .i64 H, .slice A l.length c] 24)).alloc (.cells #[.int .i64 n, .int .i64 d] 26) = W := by rw [hWa, hWb]
    have HW := hide hABC
    have k1 := ka.bel bb
    have hrW := (hr.bel ba).bel bb
    have hB : Below q w W := by
      rw [hq] at ba
      rw [sa] at bb
      exact ba.trans (bb.mono (by omega))
    have z1 : q < W.heap.size := k1.lt
    have z2 : q1 < W.heap.size := k2.lt
    clear hABC hWa hWb ba bb ka sa
    have s0 := k1.cell 0; have s1 := k1.cell 1; simp only [List.getElem?_cons_zero, List.getElem?_cons_succ] at s0 s1
    have t0 := k2.cell 0; have t1 := k2.cell 1; simp only [List.getElem?_cons_zero, List.getElem?_cons_succ] at t0 t1
    go_enter Try.func21, Try.ntmps21
    go_upto_region 1 with fail
    try simp only [World.size_alloc, hq, hq1]
    rw [HW.out]
    have hSd : (∀ b o, b < W.heap.size → W.drew.cell? ⟨b, o, none⟩ = W.cell? ⟨b, o, none⟩) ∧ Below W.heap.size W W.drew := kp (Below.refl _ _).drew
    refine wp_region_held (S := fun w' => (∀ b o, b < W.heap.size → w'.cell? ⟨b, o, none⟩ = W.cell? ⟨b, o, none⟩) ∧ Below W.heap.size W w') (by kernel_rfl) ?_
    change wpAnyH _ _ _ _ _ _ _ _ W.drew
    refine wpAnyH_take (i := 0) (v := ?_) rfl (by kernel_rfl) (by kernel_rfl) (by kernel_rfl) (fun _ _ _ h => h) (Or.inl ⟨by kernel_rfl, ?_⟩) (by assumption) ?_
    rotate_left 1
    · (intro w hSw; obtain ⟨hk1, hk2⟩ := hSw; go_simp <;> with_reducible rfl)
    simp only [Act.put, List.getElem_toArray, List.getElem_cons_zero, List.setIfInBounds_toArray, List.set_cons_zero, List.set_cons_succ]
    refine wpAnyH_take (i := 2) (v := ?_) rfl (by kernel_rfl) (by kernel_rfl) (by kernel_rfl) (fun _ _ _ h => h) (Or.inl ⟨by kernel_rfl, ?_⟩) (by assumption) ?_
    rotate_left 1
    · (intro w hSw; obtain ⟨hk1, hk2⟩ := hSw; go_simp <;> with_reducible rfl)
    simp only [Act.put, List.getElem_toArray, List.getElem_cons_zero, List.getElem_cons_succ, List.setIfInBounds_toArray, List.set_cons_zero, List.set_cons_succ]
    refine nextH (i := 1) (by kernel_rfl) rfl (fun K hK => ?_)
    go_simp
    refine (HS.out _ (hrW.bel hSd.2)).mono ?_
    rintro e_ w1 ⟨rfl, hbx⟩
    have hS' := kp (bel_tr hSd.2 hSd.2.size hbx)
    try dsimp only
    refine hK _ _ hS' ?_
    clear hK K hSd hbx
    have hSd := hS'
    clear hS'
    refine nextH (i := 3) (by kernel_rfl) rfl (fun K hK => ?_)
    go_simp
    refine (HT.out _).mono ?_
    rintro e_ w2 ⟨rfl, hbx⟩
    have hS' := kp (bel_tr hSd.2 hSd.2.size hbx)
    try dsimp only
    refine hK _ _ hS' ?_
    clear hK K hSd hbx
    have hSd := hS'
    clear hS'
    refine nextH (i := 4) (by kernel_rfl) rfl (fun K hK => ?_)
    go_simp
    refine hK _ _ (kp (bel_alloc hSd.2 hSd.2.size _)) ?_
    clear hK K
    have hS9 := kp (bel_alloc hSd.2 hSd.2.size (.cells #[.int .i64 es, .int .i64 et] 29))
    clear hSd
    have hSd := hS9
    clear hS9
    refine nextH (i := 5) (by kernel_rfl) rfl (fun K hK => ?_)
    go_simp
    refine (firstError_2 _ _ _).mono ?_
    rintro e_ w_ ⟨rfl, rfl⟩
    try dsimp only
    refine hK _ _ hSd ?_
    clear hK K
    refine nextH (i := 6) (by kernel_rfl) rfl (fun K hK => ?_)
    go_simp
    refine hK _ _ hSd ?_
    clear hK K
    refine wpAnyH_done (by kernel_rfl) ?_ _
    rw [← HE.out]
    obtain ⟨w3, hw3⟩ : ∃ w3, w2.alloc (.cells #[.int .i64 es, .int .i64 et] 29) = w3 := ⟨_, rfl⟩
    rw [hw3] at hSd ⊢
    have hb3 := hSd.2
    have k13 := k1.bel hb3
    have k23 := k2.bel hb3
    have hr3 := hrW.bel hb3
    have hB3 : Below q w w3 := hB.trans (hb3.mono (by omega))
    clear hw3 hSd s0 s1 t0 t1 k1 k2 hrW hB HE HS HT hb3
    have s0 := k13.cell 0; have s1 := k13.cell 1; simp only [List.getElem?_cons_zero, List.getElem?_cons_succ] at s0 s1
    have t0 := k23.cell 0; have t1 := k23.cell 1; simp only [List.getElem?_cons_zero, List.getElem?_cons_succ] at t0 t1
    have z13 := k13.lt
    have z23 := k23.lt
    go_upto_region 4 with fail
    have hSd : (∀ b o, b < w3.heap.size → w3.drew.cell? ⟨b, o, none⟩ = w3.cell? ⟨b, o, none⟩) ∧ Below w3.heap.size w3 w3.drew := kp (Below.refl _ _).drew
    refine wp_region_held (S := fun w' => (∀ b o, b < w3.heap.size → w'.cell? ⟨b, o, none⟩ = w3.cell? ⟨b, o, none⟩) ∧ Below w3.heap.size w3 w') (by kernel_rfl) ?_
    change wpAnyH _ _ _ _ _ _ _ _ w3.drew
    refine wpAnyH_take (i := 0) (v := ?_) rfl (by kernel_rfl) (by kernel_rfl) (by kernel_rfl) (fun _ _ _ h => h) (Or.inl ⟨by kernel_rfl, ?_⟩) (by assumption) ?_
    rotate_left 1
    · (intro w hSw; obtain ⟨hk1, hk2⟩ := hSw; go_simp <;> with_reducible rfl)
    simp only [Act.put, List.getElem_toArray, List.getElem_cons_zero, List.setIfInBounds_toArray, List.set_cons_zero, List.set_cons_succ]
    refine wpAnyH_take (i := 2) (v := ?_) rfl (by kernel_rfl) (by kernel_rfl) (by kernel_rfl) (fun _ _ _ h => h) (Or.inl ⟨by kernel_rfl, ?_⟩) (by assumption) ?_
    rotate_left 1
    · (intro w hSw; obtain ⟨hk1, hk2⟩ := hSw; go_simp <;> with_reducible rfl)
    simp only [Act.put, List.getElem_toArray, List.getElem_cons_zero, List.getElem_cons_succ, List.setIfInBounds_toArray, List.set_cons_zero, List.set_cons_succ]
    refine wpAnyH_take (i := 3) (v := ?_) rfl (by kernel_rfl) (by kernel_rfl) (by kernel_rfl) (fun _ _ _ h => h) (Or.inl ⟨by kernel_rfl, ?_⟩) (by assumption) ?_
    rotate_left 1
    · (intro w hSw; obtain ⟨hk1, hk2⟩ := hSw; go_simp <;> with_reducible rfl)
    simp only [Act.put, List.getElem_toArray, List.getElem_cons_zero, List.getElem_cons_succ, List.setIfInBounds_toArray, List.set_cons_zero, List.set_cons_succ]
    refine wpAnyH_take (i := 5) (v := ?_) rfl (by kernel_rfl) (by kernel_rfl) (by kernel_rfl) (fun _ _ _ h => h) (Or.inl ⟨by kernel_rfl, ?_⟩) (by assumption) ?_
    rotate_left 1
    · (intro w hSw; obtain ⟨hk1, hk2⟩ := hSw; go_simp <;> with_reducible rfl)
    simp only [Act.put, List.getElem_toArray, List.getElem_cons_zero, List.getElem_cons_succ, List.setIfInBounds_toArray, List.set_cons_zero, List.set_cons_succ]
    refine wpAnyH_take (i := 6) (v := ?_) rfl (by kernel_rfl) (by kernel_rfl) (by kernel_rfl) (fun _ _ _ h => h) (Or.inl ⟨by kernel_rfl, ?_⟩) (by assumption) ?_
    rotate_left 1
    · (intro w hSw; obtain ⟨hk1, hk2⟩ := hSw; go_simp <;> with_reducible rfl)
    simp only [Act.put, List.getElem_toArray, List.getElem_cons_zero, List.getElem_cons_succ, List.setIfInBounds_toArray, List.set_cons_zero, List.set_cons_succ]
    refine wpAnyH_take (i := 7) (v := ?_) rfl (by kernel_rfl) (by kernel_rfl) (by kernel_rfl) (fun _ _ _ h => h) (Or.inl ⟨by kernel_rfl, ?_⟩) (by assumption) ?_
    rotate_left 1
    · (intro w hSw; obtain ⟨hk1, hk2⟩ := hSw; go_simp <;> with_reducible rfl)
    simp only [Act.put, List.getElem_toArray, List.getElem_cons_zero, List.getElem_cons_succ, List.setIfInBounds_toArray, List.set_cons_zero, List.set_cons_succ]
    refine wpAnyH_take (i := 8) (v := ?_) rfl (by kernel_rfl) (by kernel_rfl) (by kernel_rfl) (fun _ _ _ h => h) (Or.inl ⟨by kernel_rfl, ?_⟩) (by assumption) ?_
    rotate_left 1
    · (intro w hSw; obtain ⟨hk1, hk2⟩ := hSw; go_simp <;> with_reducible rfl)
    simp only [Act.put, List.getElem_toArray, List.getElem_cons_zero, List.getElem_cons_succ, List.setIfInBounds_toArray, List.set_cons_zero, List.set_cons_succ]
    refine wpAnyH_take (i := 9) (v := ?_) rfl (by kernel_rfl) (by kernel_rfl) (by kernel_rfl) (fun _ _ _ h => h) (Or.inl ⟨by kernel_rfl, ?_⟩) (by assumption) ?_
    rotate_left 1
    · (intro w hSw; obtain ⟨hk1, hk2⟩ := hSw; go_simp <;> with_reducible rfl)
    simp only [Act.put, List.getElem_toArray, List.getElem_cons_zero, List.getElem_cons_succ, List.setIfInBounds_toArray, List.set_cons_zero, List.set_cons_succ]
    refine nextH (i := 1) (by kernel_rfl) rfl (fun K hK => ?_)
    go_simp
    refine (HG.out _ (hr3.bel hSd.2)).mono ?_
    rintro e_ w4 ⟨rfl, hbx⟩
    have hS' := kp (bel_tr hSd.2 hSd.2.size hbx)
    try dsimp only
    refine hK _ _ hS' ?_
    clear hK K hSd hbx
    have hSd := hS'
    clear hS'
    refine wpAnyH_take (i := 4) (v := ?_) rfl (by kernel_rfl) (by kernel_rfl) (by kernel_rfl) (fun _ _ _ h => h) (Or.inl ⟨by kernel_rfl, ?_⟩) (by assumption) ?_
    rotate_left 1
    · (intro w hSw; obtain ⟨hk1, hk2⟩ := hSw; go_simp <;> with_reducible rfl)
    simp only [Act.put, List.getElem_toArray, List.getElem_cons_zero, List.getElem_cons_succ, List.setIfInBounds_toArray, List.set_cons_zero, List.set_cons_succ]
    refine wpAnyH_take (i := 10) (v := ?_) rfl (by kernel_rfl) (by kernel_rfl) (by kernel_rfl) (fun _ _ _ h => h) (Or.inl ⟨by kernel_rfl, ?_⟩) (by assumption) ?_
    rotate_left 1
    · (intro w hSw; obtain ⟨hk1, hk2⟩ := hSw; go_simp <;> with_reducible rfl)
    simp only [Act.put, List.getElem_toArray, List.getElem_cons_zero, List.getElem_cons_succ, List.setIfInBounds_toArray, List.set_cons_zero, List.set_cons_succ]
    refine wpAnyH_take (i := 11) (v := ?_) rfl (by kernel_rfl) (by kernel_rfl) (by kernel_rfl) (fun _ _ _ h => h) (Or.inl ⟨by kernel_rfl, ?_⟩) (by assumption) ?_
    rotate_left 1
    · (intro w hSw; obtain ⟨hk1, hk2⟩ := hSw; go_simp <;> with_reducible rfl)
    simp only [Act.put, List.getElem_toArray, List.getElem_cons_zero, List.getElem_cons_succ, List.setIfInBounds_toArray, List.set_cons_zero, List.set_cons_succ]
    refine wpAnyH_done (by kernel_rfl) ?_ _
    have hB4 : Below q w w4 := hB3.trans (hSd.2.mono (by have := hB3.size; omega))
    have hq4 : q ≤ w4.heap.size := by have := hB4.size; omega
    clear s0 s1 t0 t1 k13 k23 hr3 HG
    by_cases hm : 3000 < rt
    · have HQ3 : Hid (secQ H n d l = (3000, 0)) := by show _ = _; rw [HQ2.out, show min rt 3000 = 3000 by omega]
      clear HQ2
      go_wp2_with (go_at_call 96; refine (HR.out _).mono ?_; rintro e_ w5 ⟨rfl, hb5⟩)
      go_ret2
      exact ⟨by rw [HQ3.out]; rfl, by first | exact hB4.trans (hb5.mono hq4) | (rw [hq]; exact hB4.trans (hb5.mono hq4))⟩
    · have HQ3 : Hid (secQ H n d l = (rt, 0)) := by show _ = _; rw [HQ2.out, show min rt 3000 = rt by omega]
      clear HQ2
      go_wp2_with (go_at_call 96; refine (HR.out _).mono ?_; rintro e_ w5 ⟨rfl, hb5⟩)
      all_goals (
        go_ret2
        exact ⟨by rw [HQ3.out]; first | rfl | (congr 3; omega), by first | exact hB4.trans (hb5.mono hq4) | (rw [hq]; exact hB4.trans (hb5.mono hq4))⟩)
  · have e1 : (e != 0) = true := by simpa using he
    have HQ2 : Hid (secQ H n d l = (0, e)) := by show _ = _; rw [HQ.out, if_pos he]
    clear he HQ HOK
    obtain ⟨q, hq⟩ : ∃ q, w.heap.size = q := ⟨_, rfl⟩
    obtain ⟨q1, hq1⟩ : ∃ q1, q + 1 = q1 := ⟨_, rfl⟩
    obtain ⟨Wa, hWa⟩ : ∃ Wa, w.alloc (.cells #[.int .i64 H, .slice A l.length c] 24) = Wa := ⟨_, rfl⟩
    have ba : Below w.heap.size w Wa := by rw [← hWa]; exact alloc_bel _ _
    have sa : Wa.heap.size = q1 := by rw [← hWa, ← hq1, ← hq]; simp
    have ka : Blk Wa q 24 [.int .i64 H, .slice A l.length c] := by rw [← hWa, ← hq]; exact Blk.new w _ [_, _]
    obtain ⟨W, hWb⟩ : ∃ W, Wa.alloc (.cells #[.int .i64 n, .int .i64 d] 26) = W := ⟨_, rfl⟩
    have bb : Below Wa.heap.size Wa W := by rw [← hWb]; exact alloc_bel _ _
    have k2 : Blk W q1 26 [.int .i64 n, .int .i64 d] := by rw [← hWb, ← sa]; exact Blk.new Wa _ [_, _]
    have hABC : (w.alloc (.cells #[.int .i64 H, .slice A l.length c] 24)).alloc (.cells #[.int .i64 n, .int .i64 d] 26) = W := by rw [hWa, hWb]
    have HW := hide hABC
    have k1 := ka.bel bb
    have hrW := (hr.bel ba).bel bb
    have hB : Below q w W := by
      rw [hq] at ba
      rw [sa] at bb
      exact ba.trans (bb.mono (by omega))
    have z1 : q < W.heap.size := k1.lt
    have z2 : q1 < W.heap.size := k2.lt
    clear hABC hWa hWb ba bb ka sa
    have s0 := k1.cell 0; have s1 := k1.cell 1; simp only [List.getElem?_cons_zero, List.getElem?_cons_succ] at s0 s1
    have t0 := k2.cell 0; have t1 := k2.cell 1; simp only [List.getElem?_cons_zero, List.getElem?_cons_succ] at t0 t1
    go_enter Try.func21, Try.ntmps21
    go_upto_region 1 with fail
    try simp only [World.size_alloc, hq, hq1]
    rw [HW.out]
    have hSd : (∀ b o, b < W.heap.size → W.drew.cell? ⟨b, o, none⟩ = W.cell? ⟨b, o, none⟩) ∧ Below W.heap.size W W.drew := kp (Below.refl _ _).drew
    refine wp_region_held (S := fun w' => (∀ b o, b < W.heap.size → w'.cell? ⟨b, o, none⟩ = W.cell? ⟨b, o, none⟩) ∧ Below W.heap.size W w') (by kernel_rfl) ?_
    change wpAnyH _ _ _ _ _ _ _ _ W.drew
    refine wpAnyH_take (i := 0) (v := ?_) rfl (by kernel_rfl) (by kernel_rfl) (by kernel_rfl) (fun _ _ _ h => h) (Or.inl ⟨by kernel_rfl, ?_⟩) (by assumption) ?_
    rotate_left 1
    · (intro w hSw; obtain ⟨hk1, hk2⟩ := hSw; go_simp <;> with_reducible rfl)
    simp only [Act.put, List.getElem_toArray, List.getElem_cons_zero, List.setIfInBounds_toArray, List.set_cons_zero, List.set_cons_succ]
    refine wpAnyH_take (i := 2) (v := ?_) rfl (by kernel_rfl) (by kernel_rfl) (by kernel_rfl) (fun _ _ _ h => h) (Or.inl ⟨by kernel_rfl, ?_⟩) (by assumption) ?_
    rotate_left 1
    · (intro w hSw; obtain ⟨hk1, hk2⟩ := hSw; go_simp <;> with_reducible rfl)
    simp only [Act.put, List.getElem_toArray, List.getElem_cons_zero, List.getElem_cons_succ, List.setIfInBounds_toArray, List.set_cons_zero, List.set_cons_succ]
    refine nextH (i := 1) (by kernel_rfl) rfl (fun K hK => ?_)
    go_simp
    refine (HS.out _ (hrW.bel hSd.2)).mono ?_
    rintro e_ w1 ⟨rfl, hbx⟩
    have hS' := kp (bel_tr hSd.2 hSd.2.size hbx)
    try dsimp only
    refine hK _ _ hS' ?_
    clear hK K hSd hbx
    have hSd := hS'
    clear hS'
    refine nextH (i := 3) (by kernel_rfl) rfl (fun K hK => ?_)
    go_simp
    refine (HT.out _).mono ?_
    rintro e_ w2 ⟨rfl, hbx⟩
    have hS' := kp (bel_tr hSd.2 hSd.2.size hbx)
    try dsimp only
    refine hK _ _ hS' ?_
    clear hK K hSd hbx
    have hSd := hS'
    clear hS'
    refine nextH (i := 4) (by kernel_rfl) rfl (fun K hK => ?_)
    go_simp
    refine hK _ _ (kp (bel_alloc hSd.2 hSd.2.size _)) ?_
    clear hK K
    have hS9 := kp (bel_alloc hSd.2 hSd.2.size (.cells #[.int .i64 es, .int .i64 et] 29))
    clear hSd
    have hSd := hS9
    clear hS9
    refine nextH (i := 5) (by kernel_rfl) rfl (fun K hK => ?_)
    go_simp
    refine (firstError_2 _ _ _).mono ?_
    rintro e_ w_ ⟨rfl, rfl⟩
    try dsimp only
    refine hK _ _ hSd ?_
    clear hK K
    refine nextH (i := 6) (by kernel_rfl) rfl (fun K hK => ?_)
    go_simp
    refine hK _ _ hSd ?_
    clear hK K
    refine wpAnyH_done (by kernel_rfl) ?_ _
    rw [← HE.out]
    obtain ⟨w3, hw3⟩ : ∃ w3, w2.alloc (.cells #[.int .i64 es, .int .i64 et] 29) = w3 := ⟨_, rfl⟩
    rw [hw3] at hSd ⊢
    have hb3 := hSd.2
    have k13 := k1.bel hb3
    have k23 := k2.bel hb3
    have hr3 := hrW.bel hb3
    have hB3 : Below q w w3 := hB.trans (hb3.mono (by omega))
    clear hw3 hSd s0 s1 t0 t1 k1 k2 hrW hB HE HS HT hb3
    have s0 := k13.cell 0; have s1 := k13.cell 1; simp only [List.getElem?_cons_zero, List.getElem?_cons_succ] at s0 s1
    have t0 := k23.cell 0; have t1 := k23.cell 1; simp only [List.getElem?_cons_zero, List.getElem?_cons_succ] at t0 t1
    have z13 := k13.lt
    have z23 := k23.lt
    go_wp2
    go_ret2
    exact ⟨by rw [HQ2.out]; rfl, by first | exact hB3 | (rw [hq]; exact hB3)⟩
end Go.Proofs.Ytkcjiejdjdcbeaa
