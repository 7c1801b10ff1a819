/- The law of what is sent. -/
import Derived.Test.YtohdjhdkmdhhcaaE75
import Derived.Test.YtohdjhdkmdhhcaaE72
set_option linter.unusedSimpArgs false
set_option linter.unusedVariables false
set_option linter.unusedSimpArgs false
set_option linter.unusedVariables false
namespace Go.Proofs.Ytohdjhdkmdhhcaa
open Go.RowKit
set_option maxRecDepth 100000

theorem sent_bad (q : List IT) (b u : Int) (A : Option Addr) (c : Nat) (w : World) (hr : Rd w A (its q)) (hc : q.length ≤ c) (hf : fewT q = true) (he : sentE q b u ≠ 0) :
    Calls Try.prog 6 #[.slice A q.length c, .agg #[.int .i64 b, .int .i64 u]] w fun r w' => r = .returned (.bool true) ∧ Below w.heap.size w w' := by
  obtain ⟨hl, hnm⟩ := fewT_ok hf
  have hnm' : ∀ k (h : k < q.length), q[k].1.size ≤ 1000 := fun k h => by have := hnm k h; omega
  have hm : q.length ≤ maxLen := by unfold maxLen; omega
  have HFEW := hide (fun W (h : Rd W A (its q)) => fewItems_c q A c W h hm)
  rw [hf] at HFEW
  have HCP := hide (fun W (h : Rd W A (its q)) => copyItems_c q A c W h (by omega))
  have HRQ := hide (fun W (h : Rd W A (its q)) => refQueueErr_c q A c W h (by omega) hc hnm')
  have HLK := hide (fun W => refLinkErr_c b u W)
  have hSE := sentE_eq q b u
  have hX := Blk.new w 51 [.int .i64 b, .int .i64 u]
  have hbel := alloc_bel w (.cells #[.int .i64 b, .int .i64 u] 51)
  have hrW := hr.bel hbel
  generalize hW : w.alloc (.cells #[.int .i64 b, .int .i64 u] 51) = W0 at hX hbel hrW
  have HW := hide hW
  have hzz := hX.lt
  clear hW hr
  have HSB := hide (fun A' c' W (h : Rd W A' (its q)) (h2 : q.length ≤ c') => sentBy_bad q A' c' b u W h (by omega) h2 hnm' he)
  generalize sentE q b u = E at *
  generalize (queE q).2 = Q at *
  generalize linkE b u = L at *
  have e1 : (E != 0) = true := by simpa using he
  have ee : (E == E) = true := by simp
  clear hnm hnm' hf hm hl
  go_enter Try.func6, Try.ntmps6
  go_upto_region 1 with fail
  rw [HW.out]
  go_upto_region 5 with (first
    | (go_at_call 7; refine (awake_c _).mono ?_; rintro e_ w1 ⟨rfl, hb1⟩)
    | (go_at_call 8; refine (HFEW.out _ (hrW.bel hb1)).mono ?_; rintro e_ w_ ⟨rfl, rfl⟩))
  have hB1 : Below w.heap.size w w1 := bel_tr hbel hbel.size hb1
  have hr1 := hrW.bel hb1
  have hX1 := hX.bel hb1
  have hz1 := hX1.lt
  clear hb1 hX hrW hbel
  have c0 := hX1.cell 0; have c1 := hX1.cell 1; simp only [List.getElem?_cons_zero, List.getElem?_cons_succ] at c0 c1
  have hSd : (∀ b o, b < w1.heap.size → w1.drew.cell? ⟨b, o, none⟩ = w1.cell? ⟨b, o, none⟩) ∧ Below w1.heap.size w1 w1.drew := kp (Below.refl _ _).drew
  refine wp_region_held (S := fun w' => (∀ b o, b < w1.heap.size → w'.cell? ⟨b, o, none⟩ = w1.cell? ⟨b, o, none⟩) ∧ Below w1.heap.size w1 w') (by kernel_rfl) ?_
  change wpAnyH _ _ _ _ _ _ _ _ w1.drew
  refine wpAnyH_take (i := 0) (v := ?_) rfl (by kernel_rfl) (by kernel_rfl) (by kernel_rfl) (fun _ _ _ h => h) (Or.inl ⟨by kernel_rfl, ?_⟩) (by assumption) ?_
  rotate_left 1
  · (intro w hSw; obtain ⟨hk1, hk2⟩ := hSw; go_simp <;> with_reducible rfl)
  simp only [Act.put, List.getElem_toArray, List.getElem_cons_zero, List.setIfInBounds_toArray, List.set_cons_zero, List.set_cons_succ]
  refine wpAnyH_take (i := 2) (v := ?_) rfl (by kernel_rfl) (by kernel_rfl) (by kernel_rfl) (fun _ _ _ h => h) (Or.inl ⟨by kernel_rfl, ?_⟩) (by assumption) ?_
  rotate_left 1
  · (intro w hSw; obtain ⟨hk1, hk2⟩ := hSw; go_simp <;> with_reducible rfl)
  simp only [Act.put, List.getElem_toArray, List.getElem_cons_zero, List.getElem_cons_succ, List.setIfInBounds_toArray, List.set_cons_zero, List.set_cons_succ]
  refine nextH (i := 1) (by kernel_rfl) rfl (fun K hK => ?_)
  go_simp
  refine (HCP.out _ (hr1.bel hSd.2)).mono ?_
  rintro e_ w5 ⟨⟨A5, c5, rfl, hx5, hc5⟩, hb5⟩
  have hB5 : Below w1.heap.size w1 w5 := bel_tr hSd.2 hSd.2.size hb5
  have hS5 := kp hB5
  try dsimp only
  refine hK _ _ hS5 ?_
  clear hK K hSd hb5
  have hSd := hS5
  clear hS5
  refine nextH (i := 3) (by kernel_rfl) rfl (fun K hK => ?_)
  go_simp
  refine (HSB.out A5 c5 w5 hx5 hc5).mono ?_
  rintro e_ w6 ⟨rfl, hb6⟩
  have HB1 : Below w1.heap.size w1 w6 := bel_tr hB5 hB5.size hb6
  have hS6 := kp HB1
  try dsimp only
  refine hK _ _ hS6 ?_
  clear hK K hSd hB5
  have hSd := hS6
  clear hS6
  refine wpAnyH_take (i := 4) (v := ?_) rfl (by kernel_rfl) (by kernel_rfl) (by kernel_rfl) (fun _ _ _ h => h) (Or.inl ⟨by kernel_rfl, ?_⟩) (by assumption) ?_
  rotate_left 1
  · (intro w hSw; obtain ⟨hk1, hk2⟩ := hSw; go_simp <;> with_reducible rfl)
  simp only [Act.put, List.getElem_toArray, List.getElem_cons_zero, List.getElem_cons_succ, List.setIfInBounds_toArray, List.set_cons_zero, List.set_cons_succ]
  refine wpAnyH_take (i := 5) (v := ?_) rfl (by kernel_rfl) (by kernel_rfl) (by kernel_rfl) (fun _ _ _ h => h) (Or.inl ⟨by kernel_rfl, ?_⟩) (by assumption) ?_
  rotate_left 1
  · (intro w hSw; obtain ⟨hk1, hk2⟩ := hSw; go_simp <;> with_reducible rfl)
  simp only [Act.put, List.getElem_toArray, List.getElem_cons_zero, List.getElem_cons_succ, List.setIfInBounds_toArray, List.set_cons_zero, List.set_cons_succ]
  refine wpAnyH_take (i := 6) (v := ?_) rfl (by kernel_rfl) (by kernel_rfl) (by kernel_rfl) (fun _ _ _ h => h) (Or.inl ⟨by kernel_rfl, ?_⟩) (by assumption) ?_
  rotate_left 1
  · (intro w hSw; obtain ⟨hk1, hk2⟩ := hSw; go_simp <;> with_reducible rfl)
  simp only [Act.put, List.getElem_toArray, List.getElem_cons_zero, List.getElem_cons_succ, List.setIfInBounds_toArray, List.set_cons_zero, List.set_cons_succ]
  refine wpAnyH_take (i := 7) (v := ?_) rfl (by kernel_rfl) (by kernel_rfl) (by kernel_rfl) (fun _ _ _ h => h) (Or.inl ⟨by kernel_rfl, ?_⟩) (by assumption) ?_
  rotate_left 1
  · (intro w hSw; obtain ⟨hk1, hk2⟩ := hSw; go_simp <;> with_reducible rfl)
  simp only [Act.put, List.getElem_toArray, List.getElem_cons_zero, List.getElem_cons_succ, List.setIfInBounds_toArray, List.set_cons_zero, List.set_cons_succ]
  refine wpAnyH_take (i := 8) (v := ?_) rfl (by kernel_rfl) (by kernel_rfl) (by kernel_rfl) (fun _ _ _ h => h) (Or.inl ⟨by kernel_rfl, ?_⟩) (by assumption) ?_
  rotate_left 1
  · (intro w hSw; obtain ⟨hk1, hk2⟩ := hSw; go_simp <;> with_reducible rfl)
  simp only [Act.put, List.getElem_toArray, List.getElem_cons_zero, List.getElem_cons_succ, List.setIfInBounds_toArray, List.set_cons_zero, List.set_cons_succ]
  refine wpAnyH_done (by kernel_rfl) ?_ _
  have hB6 := bel_tr hB1 hB1.size HB1
  have hr6 := hr1.bel HB1
  have hX6 := hX1.bel HB1
  clear c0 c1 HB1 hb6 hx5 hc5 hX1 hr1 hB1
  by_cases hQ : Q = 0
  · rw [if_pos hQ] at hSE
    subst hQ hSE
    go_upto_region 8 with (first | (go_at_call 16; refine (HRQ.out _ hr6).mono ?_; rintro e_ w7 ⟨rfl, hb7⟩))
    have hX7 := hX6.bel hb7
    have hz7 := hX7.lt
    have c0 := hX7.cell 0; have c1 := hX7.cell 1; simp only [List.getElem?_cons_zero, List.getElem?_cons_succ] at c0 c1
    have hB7 := bel_tr hB6 hB6.size hb7
    go_wp2_with (first | (go_at_call 24; refine (HLK.out _).mono ?_; rintro e_ w8 ⟨rfl, hb8⟩))
    go_ret
    exact ⟨rfl, bel_tr hB7 hB7.size hb8⟩
  · rw [if_neg hQ] at hSE
    have q1 : (Q == 0) = false := by simpa using hQ
    subst hSE
    clear hQ
    go_wp2_with (first | (go_at_call 16; refine (HRQ.out _ hr6).mono ?_; rintro e_ w7 ⟨rfl, hb7⟩))
    go_ret
    exact ⟨rfl, bel_tr hB6 hB6.size hb7⟩
set_option maxHeartbeats 2000000 in
theorem sent_ok (q : List IT) (b u : Int) (A : Option Addr) (c : Nat) (w : World) (hr : Rd w A (its q)) (hc : q.length ≤ c) (hf : fewT q = true) (he : sentE q b u = 0) :
    Calls Try.prog 6 #[.slice A q.length c, .agg #[.int .i64 b, .int .i64 u]] w fun r w' => r = .returned (.bool true) ∧ Below w.heap.size w w' := by
  obtain ⟨hl, hnm⟩ := fewT_ok hf
  have hnm' : ∀ k (h : k < q.length), q[k].1.size ≤ 1000 := fun k h => by have := hnm k h; omega
  have hm : q.length ≤ maxLen := by unfold maxLen; omega
  have HFEW := hide (fun W (h : Rd W A (its q)) => fewItems_c q A c W h hm)
  rw [hf] at HFEW
  have HCP := hide (fun W (h : Rd W A (its q)) => copyItems_c q A c W h (by omega))
  have HRQ := hide (fun W (h : Rd W A (its q)) => refQueueErr_c q A c W h (by omega) hc hnm')
  have HLK := hide (fun W => refLinkErr_c b u W)
  have hSE := sentE_eq q b u
  have hX := Blk.new w 51 [.int .i64 b, .int .i64 u]
  have hbel := alloc_bel w (.cells #[.int .i64 b, .int .i64 u] 51)
  have hrW := hr.bel hbel
  generalize hW : w.alloc (.cells #[.int .i64 b, .int .i64 u] 51) = W0 at hX hbel hrW
  have HW := hide hW
  have hzz := hX.lt
  clear hW hr
  obtain ⟨hq0, hb01, hu0, hu1⟩ := sentE_zero he
  have hS := szOk hq0
  have hl20 := hS.len
  rw [if_pos hq0] at hSE
  have hL : linkE b u = 0 := by rw [← hSE]; exact he
  have HSB := hide (fun A' c' W (h : Rd W A' (its q)) (h2 : q.length ≤ c') => sentBy_ok q A' c' b u W h (by omega) h2 hnm' he)
  have HRS := hide (fun W (h : Rd W A (its q)) => refSentBy_c q A c b u W h (by omega) he)
  have HRO := hide (fun W (h : Rd W A (its q)) => refOrderOf_c q A c W h (by omega))
  have hEL : (endL q b u).length = q.length := endTo_len q b u _
  have HIN := hide (fun A' c' B d W (h : Rd W A' (ints (endL q b u))) (h2 : Rd W B (ints (endL q b u))) => ints_c (endL q b u) (endL q b u) A' B c' d W h h2 (by omega))
  rw [hEL, decide_eq_true rfl] at HIN
  rw [hL] at HLK
  rw [hq0] at HRQ
  have HE := hide he
  clear he hL hSE hq0
  clear hnm hnm' hf hm hl
  go_enter Try.func6, Try.ntmps6
  go_upto_region 1 with fail
  rw [HW.out]
  go_upto_region 5 with (first
    | (go_at_call 7; refine (awake_c _).mono ?_; rintro e_ w1 ⟨rfl, hb1⟩)
    | (go_at_call 8; refine (HFEW.out _ (hrW.bel hb1)).mono ?_; rintro e_ w_ ⟨rfl, rfl⟩))
  have hB1 : Below w.heap.size w w1 := bel_tr hbel hbel.size hb1
  have hr1 := hrW.bel hb1
  have hX1 := hX.bel hb1
  have hz1 := hX1.lt
  clear hb1 hX hrW hbel
  have c0 := hX1.cell 0; have c1 := hX1.cell 1; simp only [List.getElem?_cons_zero, List.getElem?_cons_succ] at c0 c1
  have hSd : (∀ b o, b < w1.heap.size → w1.drew.cell? ⟨b, o, none⟩ = w1.cell? ⟨b, o, none⟩) ∧ Below w1.heap.size w1 w1.drew := kp (Below.refl _ _).drew
  refine wp_region_held (S := fun w' => (∀ b o, b < w1.heap.size → w'.cell? ⟨b, o, none⟩ = w1.cell? ⟨b, o, none⟩) ∧ Below w1.heap.size w1 w') (by kernel_rfl) ?_
  change wpAnyH _ _ _ _ _ _ _ _ w1.drew
  refine wpAnyH_take (i := 0) (v := ?_) rfl (by kernel_rfl) (by kernel_rfl) (by kernel_rfl) (fun _ _ _ h => h) (Or.inl ⟨by kernel_rfl, ?_⟩) (by assumption) ?_
  rotate_left 1
  · (intro w hSw; obtain ⟨hk1, hk2⟩ := hSw; go_simp <;> with_reducible rfl)
  simp only [Act.put, List.getElem_toArray, List.getElem_cons_zero, List.setIfInBounds_toArray, List.set_cons_zero, List.set_cons_succ]
  refine wpAnyH_take (i := 2) (v := ?_) rfl (by kernel_rfl) (by kernel_rfl) (by kernel_rfl) (fun _ _ _ h => h) (Or.inl ⟨by kernel_rfl, ?_⟩) (by assumption) ?_
  rotate_left 1
  · (intro w hSw; obtain ⟨hk1, hk2⟩ := hSw; go_simp <;> with_reducible rfl)
  simp only [Act.put, List.getElem_toArray, List.getElem_cons_zero, List.getElem_cons_succ, List.setIfInBounds_toArray, List.set_cons_zero, List.set_cons_succ]
  refine nextH (i := 1) (by kernel_rfl) rfl (fun K hK => ?_)
  go_simp
  refine (HCP.out _ (hr1.bel hSd.2)).mono ?_
  rintro e_ w5 ⟨⟨A5, c5, rfl, hx5, hc5⟩, hb5⟩
  have hB5 : Below w1.heap.size w1 w5 := bel_tr hSd.2 hSd.2.size hb5
  have hS5 := kp hB5
  try dsimp only
  refine hK _ _ hS5 ?_
  clear hK K hSd hb5
  have hSd := hS5
  clear hS5
  refine nextH (i := 3) (by kernel_rfl) rfl (fun K hK => ?_)
  go_simp
  refine (HSB.out A5 c5 w5 hx5 hc5).mono ?_
  rintro e_ w6 ⟨⟨A6, c6, rfl, hx6⟩, hb6⟩
  have HB1 : Below w1.heap.size w1 w6 := bel_tr hB5 hB5.size hb6
  have hS6 := kp HB1
  try dsimp only
  refine hK _ _ hS6 ?_
  clear hK K hSd hB5
  have hSd := hS6
  clear hS6
  refine wpAnyH_take (i := 4) (v := ?_) rfl (by kernel_rfl) (by kernel_rfl) (by kernel_rfl) (fun _ _ _ h => h) (Or.inl ⟨by kernel_rfl, ?_⟩) (by assumption) ?_
  rotate_left 1
  · (intro w hSw; obtain ⟨hk1, hk2⟩ := hSw; go_simp <;> with_reducible rfl)
  simp only [Act.put, List.getElem_toArray, List.getElem_cons_zero, List.getElem_cons_succ, List.setIfInBounds_toArray, List.set_cons_zero, List.set_cons_succ]
  refine wpAnyH_take (i := 5) (v := ?_) rfl (by kernel_rfl) (by kernel_rfl) (by kernel_rfl) (fun _ _ _ h => h) (Or.inl ⟨by kernel_rfl, ?_⟩) (by assumption) ?_
  rotate_left 1
  · (intro w hSw; obtain ⟨hk1, hk2⟩ := hSw; go_simp <;> with_reducible rfl)
  simp only [Act.put, List.getElem_toArray, List.getElem_cons_zero, List.getElem_cons_succ, List.setIfInBounds_toArray, List.set_cons_zero, List.set_cons_succ]
  refine wpAnyH_take (i := 6) (v := ?_) rfl (by kernel_rfl) (by kernel_rfl) (by kernel_rfl) (fun _ _ _ h => h) (Or.inl ⟨by kernel_rfl, ?_⟩) (by assumption) ?_
  rotate_left 1
  · (intro w hSw; obtain ⟨hk1, hk2⟩ := hSw; go_simp <;> with_reducible rfl)
  simp only [Act.put, List.getElem_toArray, List.getElem_cons_zero, List.getElem_cons_succ, List.setIfInBounds_toArray, List.set_cons_zero, List.set_cons_succ]
  refine wpAnyH_take (i := 7) (v := ?_) rfl (by kernel_rfl) (by kernel_rfl) (by kernel_rfl) (fun _ _ _ h => h) (Or.inl ⟨by kernel_rfl, ?_⟩) (by assumption) ?_
  rotate_left 1
  · (intro w hSw; obtain ⟨hk1, hk2⟩ := hSw; go_simp <;> with_reducible rfl)
  simp only [Act.put, List.getElem_toArray, List.getElem_cons_zero, List.getElem_cons_succ, List.setIfInBounds_toArray, List.set_cons_zero, List.set_cons_succ]
  refine wpAnyH_take (i := 8) (v := ?_) rfl (by kernel_rfl) (by kernel_rfl) (by kernel_rfl) (fun _ _ _ h => h) (Or.inl ⟨by kernel_rfl, ?_⟩) (by assumption) ?_
  rotate_left 1
  · (intro w hSw; obtain ⟨hk1, hk2⟩ := hSw; go_simp <;> with_reducible rfl)
  simp only [Act.put, List.getElem_toArray, List.getElem_cons_zero, List.getElem_cons_succ, List.setIfInBounds_toArray, List.set_cons_zero, List.set_cons_succ]
  refine wpAnyH_done (by kernel_rfl) ?_ _
  have hB6 := bel_tr hB1 hB1.size HB1
  have hr6 := hr1.bel HB1
  have hX6 := hX1.bel HB1
  clear c0 c1 HB1 hb6 hx5 hc5 hX1 hr1 hB1
  go_upto_region 8 with (first | (go_at_call 16; refine (HRQ.out _ hr6).mono ?_; rintro e_ w7 ⟨rfl, hb7⟩))
  have hX7 := hX6.bel hb7
  have hr7 := hr6.bel hb7
  have hx7 := hx6.bel hb7
  have hB7 := bel_tr hB6 hB6.size hb7
  have hz7 := hX7.lt
  clear hX6 hr6 hx6 hB6 hb7
  have c0 := hX7.cell 0; have c1 := hX7.cell 1; simp only [List.getElem?_cons_zero, List.getElem?_cons_succ] at c0 c1
  go_upto_region 11 with (first | (go_at_call 24; refine (HLK.out _).mono ?_; rintro e_ w8 ⟨rfl, hb8⟩))
  have hX8 := hX7.bel hb8
  have hr8 := hr7.bel hb8
  have hx8 := hx7.bel hb8
  have hB8 := bel_tr hB7 hB7.size hb8
  have hz8 := hX8.lt
  clear hX7 hr7 hx7 hB7 hb8 c0 c1
  have c0 := hX8.cell 0; have c1 := hX8.cell 1; simp only [List.getElem?_cons_zero, List.getElem?_cons_succ] at c0 c1
  go_upto_region 13 with (first
    | (go_at_call 25; refine (HRS.out _ hr8).mono ?_; rintro e_ w9 ⟨⟨A9, c9, rfl, hx9⟩, hb9⟩)
    | (go_at_call 13; refine (HIN.out _ _ _ _ _ (hx8.bel hb9) hx9).mono ?_; rintro e_ w10 ⟨rfl, hb10⟩))
  have hb810 : Below w8.heap.size w8 w10 := bel_tr hb9 hb9.size hb10
  have hX10 := hX8.bel hb810
  have hr10 := hr8.bel hb810
  have hx10 := hx8.bel hb810
  have hB10 := bel_tr hB8 hB8.size hb810
  clear hX8 hr8 hx8 hB8 hb9 hb10 hb810 hx9 c0 c1
  go_wp2_with (first | (go_at_call 14; refine (HRO.out _ hr10).mono ?_; rintro e_ w11 ⟨⟨A11, c11, rfl, hy11, _⟩, hb11⟩))
  have hX11 := hX10.bel hb11
  have hr11 := hr10.bel hb11
  have hx11 := hx10.bel hb11
  have hB11 := bel_tr hB10 hB10.size hb11
  clear hX10 hr10 hx10 hB10 hb11
  go_loopw [9, 10] (fun x y wr => ∃ k : Nat, k ≤ q.length ∧ y = .int .i64 k ∧ x = .int .i64 (sumTo q k) ∧ Below w11.heap.size w11 wr) (fun _ y _ => q.length - (intOf y).toNat)
  case atStart => exact ⟨0, Nat.zero_le _, rfl, by rw [sumTo_zero], Below.refl _ _⟩
  case round =>
    obtain ⟨k, hk, rfl, rfl, hb⟩ := hrel
    by_cases hlt : k < q.length
    · have hk' : k < (ordL q).length := by rw [ordL_len]; exact hlt
      have hm : (ordL q)[k] < q.length := (ordL_mem q).1 (List.getElem_mem hk')
      obtain ⟨b4, o4, rfl, hb4, x0⟩ := (hy11.bel hb).int_at (k := k) (by rw [ordI_len]; exact hlt)
      have hoi := (ordI_at q (j := k) (by rw [ordI_len]; exact hlt)).2.1
      rw [hoi] at x0
      have hss := sumTo_succ q hk'
      rw [itS_at hm] at hss
      have hbd := sumTo_bd hS k (by omega)
      have hsz := hS.sz _ hm
      have hbd2 := sumTo_bd hS (k + 1) (by omega)
      have hend := endTo_at q b u (k := k) (n := q.length) hk' hlt (by rw [endTo_len]; exact hm)
      obtain ⟨b6, o6, rfl, hb6, z0⟩ := (hx11.bel hb).int_at (k := (ordL q)[k]) (by rw [hEL]; exact hm)
      rw [show (endL q b u)[(ordL q)[k]]'(by rw [hEL]; exact hm) = b + upD (sumTo q (k + 1)) u from hend] at z0
      obtain ⟨i, hi⟩ : ∃ i, (ordL q)[k] = i := ⟨_, rfl⟩
      simp only [hi] at hss hsz hm x0 z0
      obtain ⟨ba, oa, rfl, hba, y0, y1, y2, y3⟩ := (hr11.bel hb).it_at hm
      have HN := hide hss
      generalize q[i].2.2.1 = sz at y2 hsz hss HN
      rw [hss] at z0 hbd2
      obtain ⟨t1, t2⟩ := end_ok (s := sumTo q k + sz) (u := u) hu0 rfl
      have hupd := upD_bd (n := sumTo q k + sz) (d := u) (by omega) hu0
      generalize upD (sumTo q k + sz) u = U at z0 t1 t2 hupd
      have hX := hX11.bel hb
      have c0 := hX.cell 0; have c1 := hX.cell 1; simp only [List.getElem?_cons_zero, List.getElem?_cons_succ] at c0 c1
      have hUu : 0 ≤ U * u ∧ U * u ≤ 10000000000 := by
        refine ⟨Int.mul_nonneg hupd.1 (by omega), ?_⟩
        have := Int.mul_le_mul (show U ≤ 300000 by omega) hu1 (by omega) (by omega)
        omega
      have hUu' : (U - 1) * u = U * u - u := by rw [Int.sub_mul, Int.one_mul]
      have j1 : (i : Int) < (q.length : Int) := by omega
      obtain ⟨V, hV⟩ : ∃ V, b + U = V := ⟨_, rfl⟩
      rw [hV] at z0
      have wV : IntKind.i64.wrap (V - b) = U := by rw [IntKind.wrap_i64]; omega
      have wS : IntKind.i64.wrap (sumTo q k + sz) = sumTo q k + sz := by rw [IntKind.wrap_i64]; omega
      have wU : IntKind.i64.wrap (U * u) = U * u := by rw [IntKind.wrap_i64]; omega
      have wU1 : IntKind.i64.wrap (U - 1) = U - 1 := by rw [IntKind.wrap_i64]; omega
      have wU2 : IntKind.i64.wrap ((U - 1) * u) = (U - 1) * u := by rw [IntKind.wrap_i64, hUu']; omega
      have t1' : decide (U * u < sumTo q k + sz) = false := decide_eq_false t1
      clear hV hUu hUu' hupd hbd hbd2 hss hend hoi hi hsz y0 y1 y3 hX HSB HCP HRQ HRS HRO HLK HIN HFEW HE
      go_wp2
      go_quiet (fail)
      go_wp2
      go_roundw
      case rel => exact ⟨k + 1, by omega, by go_num, by rw [HN.out], below_drewN hb _⟩
      case measure => simp [intOf]; omega
    · go_wp2
      go_ret
      exact ⟨rfl, bel_tr hB11 hB11.size hb⟩
theorem sentLaw_c (A : Option Addr) (c : Nat) (q : List IT) (b u : Int) (w : World) (hr : Rd w A (its q)) (hc : q.length ≤ c) (hm : q.length ≤ maxLen) :
    Calls Try.prog 6 #[.slice A q.length c, .agg #[.int .i64 b, .int .i64 u]] w fun r w' => r = .returned (.bool true) ∧ Below w.heap.size w w' := by
  by_cases hf : fewT q = true
  · by_cases he : sentE q b u = 0
    · exact sent_ok q b u A c w hr hc hf he
    · exact sent_bad q b u A c w hr hc hf he
  · have hf := eq_false_of_ne_true hf
    have HFEW := hide (fun W (h : Rd W A (its q)) => fewItems_c q A c W h hm)
    rw [hf] at HFEW
    have hbel := alloc_bel w (.cells #[.int .i64 b, .int .i64 u] 51)
    have hrW := hr.bel hbel
    generalize hW : w.alloc (.cells #[.int .i64 b, .int .i64 u] 51) = W0 at hbel hrW
    have HW := hide hW
    clear hf hm hc hW
    go_enter Try.func6, Try.ntmps6
    go_upto_region 1 with fail
    rw [HW.out]
    go_wp2_with (first
      | (go_at_call 7; refine (awake_c _).mono ?_; rintro e_ w1 ⟨rfl, hb1⟩)
      | (go_at_call 8; refine (HFEW.out _ (hrW.bel hb1)).mono ?_; rintro e_ w_ ⟨rfl, rfl⟩))
    go_ret
    exact ⟨rfl, bel_tr hbel hbel.size hb1⟩
end Go.Proofs.Ytohdjhdkmdhhcaa
