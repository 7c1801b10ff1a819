/- The law of puts. -/
import Derived.Test.YtohdjhdkmdhhcaaE81
import Derived.Test.YtohdjhdkmdhhcaaE72
set_option linter.unusedSimpArgs false
set_option linter.unusedVariables false
set_option linter.unusedSimpArgs false
set_option linter.unusedVariables false
namespace Go.Proofs.Ytohdjhdkmdhhcaa
open Go.RowKit
set_option maxRecDepth 100000


/-- The reference's error of an item that is put into a valid queue. -/
def putErr (q : List IT) (x : IT) (cap : Int) : Int := firstE [itemE q x, errIf (outB cap 0 200000) 2, errIf (decide (20 ≤ (q.length : Int))) 8]
theorem putE_eq (q : List IT) (x : IT) (cap : Int) : putE q x cap = if (queE q).2 = 0 then putErr q x cap else (queE q).2 := by
  unfold putE putErr
  by_cases h : (queE q).2 = 0
  · have h2 := queE_len h
    have e : ((q.length : Int) == 20) = decide (20 ≤ (q.length : Int)) := by rw [Bool.eq_iff_iff]; simp; omega
    rw [if_pos h, h, e]
    simp [firstE]
  · rw [if_neg h]
    simp [firstE, h]
theorem refPutErr_c (q : List IT) (n : ByteArray) (p s t cp : Int) (A : Option Addr) (c : Nat) (w : World) (hr : Rd w A (its q)) (hl : q.length ≤ 1000) (hn : n.size ≤ 1000) :
    Calls Try.prog 17 #[.slice A q.length c, .agg #[.string n, .int .i64 p, .int .i64 s, .int .i64 t], .int .i64 cp] w fun r w' => r = .returned (.int .i64 (putErr q (n, p, s, t) cp)) ∧ Below w.heap.size w w' := by
  have hX := Blk.new w 37 [.string n, .int .i64 p, .int .i64 s, .int .i64 t]
  have hbel := alloc_bel w (.cells #[.string n, .int .i64 p, .int .i64 s, .int .i64 t] 37)
  have hrW := hr.bel hbel
  generalize hW : w.alloc (.cells #[.string n, .int .i64 p, .int .i64 s, .int .i64 t] 37) = W at hX hbel hrW
  have HW := hide hW
  clear hW
  have HI := hide (refItemErr_c A c q n p s t W hrW hl hn)
  have HWI := hide (fun x lo hi W => within_c x lo hi W)
  have HU : Hid (putErr q (n, p, s, t) cp = firstE [itemE q (n, p, s, t), errIf (outB cp 0 200000) 2, errIf (decide (20 ≤ (q.length : Int))) 8]) := rfl
  generalize itemE q (n, p, s, t) = ei at HI HU
  have c0 := hX.cell 0; have c1 := hX.cell 1; have c2 := hX.cell 2; have c3 := hX.cell 3; simp only [List.getElem?_cons_zero, List.getElem?_cons_succ] at c0 c1 c2 c3
  have hzW := hX.lt
  by_cases h1 : ei = 0
  · have e1 : (ei != 0) = false := by simpa using h1
    cases h2 : outB cp 0 200000
    · by_cases h3 : (20 : Int) ≤ (q.length : Int)
      · have HV : Hid (putErr q (n, p, s, t) cp = 8) := by show _ = _; rw [HU.out, h1, h2, decide_eq_true h3]; rfl
        clear h1 HU
        go_enter Try.func17, Try.ntmps17
        go_upto_region 1 with fail
        rw [HW.out]
        go_wp2_with (first | (go_at_call 38; refine HI.out.mono ?_; rintro e_ w3 ⟨rfl, hb3⟩) | (go_at_call 21; refine (HWI.out _ _ _ _).mono ?_; rintro e_ w_ ⟨rfl, rfl⟩; rw [h2]))
        go_ret
        exact ⟨by rw [HV.out]; rfl, bel_tr hbel hbel.size hb3⟩
      · have HV : Hid (putErr q (n, p, s, t) cp = 0) := by show _ = _; rw [HU.out, h1, h2, decide_eq_false h3]; rfl
        clear h1 HU
        go_enter Try.func17, Try.ntmps17
        go_upto_region 1 with fail
        rw [HW.out]
        go_wp2_with (first | (go_at_call 38; refine HI.out.mono ?_; rintro e_ w3 ⟨rfl, hb3⟩) | (go_at_call 21; refine (HWI.out _ _ _ _).mono ?_; rintro e_ w_ ⟨rfl, rfl⟩; rw [h2]))
        go_ret
        exact ⟨by rw [HV.out]; rfl, bel_tr hbel hbel.size hb3⟩
    · have HV : Hid (putErr q (n, p, s, t) cp = 2) := by show _ = _; rw [HU.out, h1, h2]; rfl
      clear h1 HU
      go_enter Try.func17, Try.ntmps17
      go_upto_region 1 with fail
      rw [HW.out]
      go_wp2_with (first | (go_at_call 38; refine HI.out.mono ?_; rintro e_ w3 ⟨rfl, hb3⟩) | (go_at_call 21; refine (HWI.out _ _ _ _).mono ?_; rintro e_ w_ ⟨rfl, rfl⟩; rw [h2]))
      go_ret
      exact ⟨by rw [HV.out]; rfl, bel_tr hbel hbel.size hb3⟩
  · have e1 : (ei != 0) = true := by simpa using h1
    have HV : Hid (putErr q (n, p, s, t) cp = ei) := by show _ = _; rw [HU.out]; simp [firstE, h1]
    clear h1 HU
    go_enter Try.func17, Try.ntmps17
    go_upto_region 1 with fail
    rw [HW.out]
    go_wp2_with (first | (go_at_call 38; refine HI.out.mono ?_; rintro e_ w3 ⟨rfl, hb3⟩))
    go_ret
    exact ⟨by rw [HV.out]; rfl, bel_tr hbel hbel.size hb3⟩

set_option maxHeartbeats 4000000 in
theorem puts_bad (q : List IT) (n : ByteArray) (p s t cp : Int) (A : Option Addr) (c : Nat) (w : World) (hr : Rd w A (its q)) (hc : q.length ≤ c) (hf : fewT q = true) (hns : n.size ≤ 30) (he : putE q (n, p, s, t) cp ≠ 0) :
    Calls Try.prog 4 #[.slice A q.length c, .agg #[.string n, .int .i64 p, .int .i64 s, .int .i64 t], .int .i64 cp] w fun r w' => r = .returned (.bool true) ∧ Below w.heap.size w w' := by
  obtain ⟨hl, hnm⟩ := fewT_ok hf
  have hnm' : ∀ k (h : k < q.length), q[k].1.size ≤ 1000 := fun k h => by have := hnm k h; omega
  have hm : q.length ≤ maxLen := by unfold maxLen; omega
  have HFEW := hide (fun W (h : Rd W A (its q)) => fewItems_c q A c W h hm)
  rw [hf] at HFEW
  have hn30 : ¬ (30 : Int) < (n.size : Int) := by omega
  have HCP := hide (fun W (h : Rd W A (its q)) => copyItems_c q A c W h (by omega))
  have HRQ := hide (fun W (h : Rd W A (its q)) => refQueueErr_c q A c W h (by omega) hc hnm')
  have HPE := hide (fun W (h : Rd W A (its q)) => refPutErr_c q n p s t cp A c W h (by omega) (by omega))
  have hSE := putE_eq q (n, p, s, t) cp
  have hX := Blk.new w 37 [.string n, .int .i64 p, .int .i64 s, .int .i64 t]
  have hbel := alloc_bel w (.cells #[.string n, .int .i64 p, .int .i64 s, .int .i64 t] 37)
  have hrW := hr.bel hbel
  generalize hW : w.alloc (.cells #[.string n, .int .i64 p, .int .i64 s, .int .i64 t] 37) = W0 at hX hbel hrW
  have HW := hide hW
  have hzz := hX.lt
  clear hW hr
  have HPB := hide (fun A' c' W (h : Rd W A' (its q)) (h2 : q.length ≤ c') => put_bad q n p s t cp A' c' W h (by omega) h2 hnm' (by omega) he)
  generalize putE q (n, p, s, t) cp = E at *
  generalize (queE q).2 = Q at *
  generalize putErr q (n, p, s, t) cp = L at *
  have e1 : (E != 0) = true := by simpa using he
  have ee : (E == E) = true := by simp
  clear hnm hnm' hf hm hl
  go_enter Try.func4, Try.ntmps4
  go_upto_region 1 with fail
  rw [HW.out]
  go_upto_region 3 with (first
    | (go_at_call 7; refine (awake_c _).mono ?_; rintro e_ w1 ⟨rfl, hb1⟩))
  have hB1 : Below w.heap.size w w1 := bel_tr hbel hbel.size hb1
  have hr1 := hrW.bel hb1
  have hX1 := hX.bel hb1
  have hz1 := hX1.lt
  clear hb1 hX hrW hbel
  have c0 := hX1.cell 0; have c1 := hX1.cell 1; have c2 := hX1.cell 2; have c3 := hX1.cell 3; simp only [List.getElem?_cons_zero, List.getElem?_cons_succ] at c0 c1 c2 c3
  go_upto_region 5 with (first
    | (go_at_call 8; refine (HFEW.out _ hr1).mono ?_; rintro e_ w_ ⟨rfl, rfl⟩))
  have hSd : (∀ b o, b < w1.heap.size → w1.drew.cell? ⟨b, o, none⟩ = w1.cell? ⟨b, o, none⟩) ∧ Below w1.heap.size w1 w1.drew := kp (Below.refl _ _).drew
  refine wp_region_held (S := fun w' => (∀ b o, b < w1.heap.size → w'.cell? ⟨b, o, none⟩ = w1.cell? ⟨b, o, none⟩) ∧ Below w1.heap.size w1 w') (by kernel_rfl) ?_
  change wpAnyH _ _ _ _ _ _ _ _ w1.drew
  refine wpAnyH_take (i := 0) (v := ?_) rfl (by kernel_rfl) (by kernel_rfl) (by kernel_rfl) (fun _ _ _ h => h) (Or.inl ⟨by kernel_rfl, ?_⟩) (by assumption) ?_
  rotate_left 1
  · (intro w hSw; obtain ⟨hk1, hk2⟩ := hSw; go_simp <;> with_reducible rfl)
  simp only [Act.put, List.getElem_toArray, List.getElem_cons_zero, List.setIfInBounds_toArray, List.set_cons_zero, List.set_cons_succ]
  refine wpAnyH_take (i := 2) (v := ?_) rfl (by kernel_rfl) (by kernel_rfl) (by kernel_rfl) (fun _ _ _ h => h) (Or.inl ⟨by kernel_rfl, ?_⟩) (by assumption) ?_
  rotate_left 1
  · (intro w hSw; obtain ⟨hk1, hk2⟩ := hSw; go_simp <;> with_reducible rfl)
  simp only [Act.put, List.getElem_toArray, List.getElem_cons_zero, List.getElem_cons_succ, List.setIfInBounds_toArray, List.set_cons_zero, List.set_cons_succ]
  refine wpAnyH_take (i := 3) (v := ?_) rfl (by kernel_rfl) (by kernel_rfl) (by kernel_rfl) (fun _ _ _ h => h) (Or.inl ⟨by kernel_rfl, ?_⟩) (by assumption) ?_
  rotate_left 1
  · (intro w hSw; obtain ⟨hk1, hk2⟩ := hSw; go_simp <;> with_reducible rfl)
  simp only [Act.put, List.getElem_toArray, List.getElem_cons_zero, List.getElem_cons_succ, List.setIfInBounds_toArray, List.set_cons_zero, List.set_cons_succ]
  refine nextH (i := 1) (by kernel_rfl) rfl (fun K hK => ?_)
  go_simp
  refine (HCP.out _ (hr1.bel hSd.2)).mono ?_
  rintro e_ w5 ⟨⟨A5, c5, rfl, hx5, hc5⟩, hb5⟩
  have hB5 : Below w1.heap.size w1 w5 := bel_tr hSd.2 hSd.2.size hb5
  have hS5 := kp hB5
  try dsimp only
  refine hK _ _ hS5 ?_
  clear hK K hSd hb5
  have hSd := hS5
  clear hS5
  refine nextH (i := 4) (by kernel_rfl) rfl (fun K hK => ?_)
  go_simp
  refine (HPB.out A5 c5 w5 hx5 hc5).mono ?_
  rintro e_ w6 ⟨rfl, hb6⟩
  have HB1 : Below w1.heap.size w1 w6 := bel_tr hB5 hB5.size hb6
  have hS6 := kp HB1
  try dsimp only
  refine hK _ _ hS6 ?_
  clear hK K hSd hB5
  have hSd := hS6
  clear hS6
  refine wpAnyH_take (i := 5) (v := ?_) rfl (by kernel_rfl) (by kernel_rfl) (by kernel_rfl) (fun _ _ _ h => h) (Or.inl ⟨by kernel_rfl, ?_⟩) (by assumption) ?_
  rotate_left 1
  · (intro w hSw; obtain ⟨hk1, hk2⟩ := hSw; go_simp <;> with_reducible rfl)
  simp only [Act.put, List.getElem_toArray, List.getElem_cons_zero, List.getElem_cons_succ, List.setIfInBounds_toArray, List.set_cons_zero, List.set_cons_succ]
  refine wpAnyH_take (i := 6) (v := ?_) rfl (by kernel_rfl) (by kernel_rfl) (by kernel_rfl) (fun _ _ _ h => h) (Or.inl ⟨by kernel_rfl, ?_⟩) (by assumption) ?_
  rotate_left 1
  · (intro w hSw; obtain ⟨hk1, hk2⟩ := hSw; go_simp <;> with_reducible rfl)
  simp only [Act.put, List.getElem_toArray, List.getElem_cons_zero, List.getElem_cons_succ, List.setIfInBounds_toArray, List.set_cons_zero, List.set_cons_succ]
  refine wpAnyH_take (i := 7) (v := ?_) rfl (by kernel_rfl) (by kernel_rfl) (by kernel_rfl) (fun _ _ _ h => h) (Or.inl ⟨by kernel_rfl, ?_⟩) (by assumption) ?_
  rotate_left 1
  · (intro w hSw; obtain ⟨hk1, hk2⟩ := hSw; go_simp <;> with_reducible rfl)
  simp only [Act.put, List.getElem_toArray, List.getElem_cons_zero, List.getElem_cons_succ, List.setIfInBounds_toArray, List.set_cons_zero, List.set_cons_succ]
  refine wpAnyH_take (i := 8) (v := ?_) rfl (by kernel_rfl) (by kernel_rfl) (by kernel_rfl) (fun _ _ _ h => h) (Or.inl ⟨by kernel_rfl, ?_⟩) (by assumption) ?_
  rotate_left 1
  · (intro w hSw; obtain ⟨hk1, hk2⟩ := hSw; go_simp <;> with_reducible rfl)
  simp only [Act.put, List.getElem_toArray, List.getElem_cons_zero, List.getElem_cons_succ, List.setIfInBounds_toArray, List.set_cons_zero, List.set_cons_succ]
  refine wpAnyH_take (i := 9) (v := ?_) rfl (by kernel_rfl) (by kernel_rfl) (by kernel_rfl) (fun _ _ _ h => h) (Or.inl ⟨by kernel_rfl, ?_⟩) (by assumption) ?_
  rotate_left 1
  · (intro w hSw; obtain ⟨hk1, hk2⟩ := hSw; go_simp <;> with_reducible rfl)
  simp only [Act.put, List.getElem_toArray, List.getElem_cons_zero, List.getElem_cons_succ, List.setIfInBounds_toArray, List.set_cons_zero, List.set_cons_succ]
  refine wpAnyH_take (i := 10) (v := ?_) rfl (by kernel_rfl) (by kernel_rfl) (by kernel_rfl) (fun _ _ _ h => h) (Or.inl ⟨by kernel_rfl, ?_⟩) (by assumption) ?_
  rotate_left 1
  · (intro w hSw; obtain ⟨hk1, hk2⟩ := hSw; go_simp <;> with_reducible rfl)
  simp only [Act.put, List.getElem_toArray, List.getElem_cons_zero, List.getElem_cons_succ, List.setIfInBounds_toArray, List.set_cons_zero, List.set_cons_succ]
  refine wpAnyH_take (i := 11) (v := ?_) rfl (by kernel_rfl) (by kernel_rfl) (by kernel_rfl) (fun _ _ _ h => h) (Or.inl ⟨by kernel_rfl, ?_⟩) (by assumption) ?_
  rotate_left 1
  · (intro w hSw; obtain ⟨hk1, hk2⟩ := hSw; go_simp <;> with_reducible rfl)
  simp only [Act.put, List.getElem_toArray, List.getElem_cons_zero, List.getElem_cons_succ, List.setIfInBounds_toArray, List.set_cons_zero, List.set_cons_succ]
  refine wpAnyH_done (by kernel_rfl) ?_ _
  have hB6 := bel_tr hB1 hB1.size HB1
  have hr6 := hr1.bel HB1
  have hX6 := hX1.bel HB1
  clear c0 c1 c2 c3 HB1 hb6 hx5 hc5 hX1 hr1 hB1
  by_cases hQ : Q = 0
  · rw [if_pos hQ] at hSE
    subst hQ hSE
    go_upto_region 8 with (first | (go_at_call 16; refine (HRQ.out _ hr6).mono ?_; rintro e_ w7 ⟨rfl, hb7⟩))
    have hX7 := hX6.bel hb7
    have hr7 := hr6.bel hb7
    have hz7 := hX7.lt
    have c0 := hX7.cell 0; have c1 := hX7.cell 1; have c2 := hX7.cell 2; have c3 := hX7.cell 3; simp only [List.getElem?_cons_zero, List.getElem?_cons_succ] at c0 c1 c2 c3
    have hB7 := bel_tr hB6 hB6.size hb7
    go_wp2_with (first | (go_at_call 17; refine (HPE.out _ hr7).mono ?_; rintro e_ w8 ⟨rfl, hb8⟩))
    go_ret
    exact ⟨rfl, bel_tr hB7 hB7.size hb8⟩
  · rw [if_neg hQ] at hSE
    have q1 : (Q == 0) = false := by simpa using hQ
    subst hSE
    clear hQ
    go_wp2_with (first | (go_at_call 16; refine (HRQ.out _ hr6).mono ?_; rintro e_ w7 ⟨rfl, hb7⟩))
    go_ret
    exact ⟨rfl, bel_tr hB6 hB6.size hb7⟩
theorem putL_len {q : List IT} {x : IT} {cap : Int} (h : PutOk q x cap) : (putL q x cap).1.length ≤ 20 ∧ (putL q x cap).2.length ≤ 20 ∧ (putL q x cap).1.length + (putL q x cap).2.length = q.length + 1 := by
  obtain ⟨D, h1, h2, _⟩ := putL_inv (q := q) (x := x) h.c0
  have h3 := h2.perm.length_eq
  rw [List.length_append, List.length_append, List.length_singleton] at h3
  rw [h1, List.length_map]
  have := h.len
  omega
set_option maxHeartbeats 4000000 in
theorem puts_ok (q : List IT) (n : ByteArray) (p s t cp : Int) (A : Option Addr) (c : Nat) (w : World) (hr : Rd w A (its q)) (hc : q.length ≤ c) (hf : fewT q = true) (hns : n.size ≤ 30) (he : putE q (n, p, s, t) cp = 0) :
    Calls Try.prog 4 #[.slice A q.length c, .agg #[.string n, .int .i64 p, .int .i64 s, .int .i64 t], .int .i64 cp] w fun r w' => r = .returned (.bool true) ∧ Below w.heap.size w w' := by
  obtain ⟨hl, hnm⟩ := fewT_ok hf
  have hnm' : ∀ k (h : k < q.length), q[k].1.size ≤ 1000 := fun k h => by have := hnm k h; omega
  have hm : q.length ≤ maxLen := by unfold maxLen; omega
  have HFEW := hide (fun W (h : Rd W A (its q)) => fewItems_c q A c W h hm)
  rw [hf] at HFEW
  have hn30 : ¬ (30 : Int) < (n.size : Int) := by omega
  have HCP := hide (fun W (h : Rd W A (its q)) => copyItems_c q A c W h (by omega))
  have HRQ := hide (fun W (h : Rd W A (its q)) => refQueueErr_c q A c W h (by omega) hc hnm')
  have HPE := hide (fun W (h : Rd W A (its q)) => refPutErr_c q n p s t cp A c W h (by omega) (by omega))
  have hSE := putE_eq q (n, p, s, t) cp
  have hX := Blk.new w 37 [.string n, .int .i64 p, .int .i64 s, .int .i64 t]
  have hbel := alloc_bel w (.cells #[.string n, .int .i64 p, .int .i64 s, .int .i64 t] 37)
  have hrW := hr.bel hbel
  generalize hW : w.alloc (.cells #[.string n, .int .i64 p, .int .i64 s, .int .i64 t] 37) = W0 at hX hbel hrW
  have HW := hide hW
  have hzz := hX.lt
  clear hW hr
  have hok := putE_zero he
  have hq0 := hok.que
  rw [if_pos hq0] at hSE
  have hL : putErr q (n, p, s, t) cp = 0 := by rw [← hSE]; exact he
  have HPB := hide (fun A' c' W (h : Rd W A' (its q)) (h2 : q.length ≤ c') => put_ok q n p s t cp A' c' W h (by omega) h2 hnm' (by omega) he)
  have HRP := hide (fun W (h : Rd W A (its q)) => refPut_c q n p s t cp A c W h (by omega) hc hnm' (by omega) he)
  obtain ⟨l1, l2, _⟩ := putL_len hok
  have HSI := hide (fun A' B' c' d' W (h : Rd W A' (its (putL q (n, p, s, t) cp).1)) (h2 : Rd W B' (its (putL q (n, p, s, t) cp).1)) => sameItems_c _ A' B' c' d' W h h2 (by omega))
  have HTX := hide (fun A' B' c' d' W (h : Rd W A' (txs (putL q (n, p, s, t) cp).2)) (h2 : Rd W B' (txs (putL q (n, p, s, t) cp).2)) => texts_same _ A' B' c' d' W h h2 (by omega))
  rw [hL] at HPE
  rw [hq0] at HRQ
  clear hok hq0 hL hSE he l1 l2
  generalize putL q (n, p, s, t) cp = PL at HPB HRP HSI HTX
  clear hnm hnm' hf hm hl
  go_enter Try.func4, Try.ntmps4
  go_upto_region 1 with fail
  rw [HW.out]
  go_upto_region 3 with (first
    | (go_at_call 7; refine (awake_c _).mono ?_; rintro e_ w1 ⟨rfl, hb1⟩))
  have hB1 : Below w.heap.size w w1 := bel_tr hbel hbel.size hb1
  have hr1 := hrW.bel hb1
  have hX1 := hX.bel hb1
  have hz1 := hX1.lt
  clear hb1 hX hrW hbel
  have c0 := hX1.cell 0; have c1 := hX1.cell 1; have c2 := hX1.cell 2; have c3 := hX1.cell 3; simp only [List.getElem?_cons_zero, List.getElem?_cons_succ] at c0 c1 c2 c3
  go_upto_region 5 with (first
    | (go_at_call 8; refine (HFEW.out _ hr1).mono ?_; rintro e_ w_ ⟨rfl, rfl⟩))
  have hSd : (∀ b o, b < w1.heap.size → w1.drew.cell? ⟨b, o, none⟩ = w1.cell? ⟨b, o, none⟩) ∧ Below w1.heap.size w1 w1.drew := kp (Below.refl _ _).drew
  refine wp_region_held (S := fun w' => (∀ b o, b < w1.heap.size → w'.cell? ⟨b, o, none⟩ = w1.cell? ⟨b, o, none⟩) ∧ Below w1.heap.size w1 w') (by kernel_rfl) ?_
  change wpAnyH _ _ _ _ _ _ _ _ w1.drew
  refine wpAnyH_take (i := 0) (v := ?_) rfl (by kernel_rfl) (by kernel_rfl) (by kernel_rfl) (fun _ _ _ h => h) (Or.inl ⟨by kernel_rfl, ?_⟩) (by assumption) ?_
  rotate_left 1
  · (intro w hSw; obtain ⟨hk1, hk2⟩ := hSw; go_simp <;> with_reducible rfl)
  simp only [Act.put, List.getElem_toArray, List.getElem_cons_zero, List.setIfInBounds_toArray, List.set_cons_zero, List.set_cons_succ]
  refine wpAnyH_take (i := 2) (v := ?_) rfl (by kernel_rfl) (by kernel_rfl) (by kernel_rfl) (fun _ _ _ h => h) (Or.inl ⟨by kernel_rfl, ?_⟩) (by assumption) ?_
  rotate_left 1
  · (intro w hSw; obtain ⟨hk1, hk2⟩ := hSw; go_simp <;> with_reducible rfl)
  simp only [Act.put, List.getElem_toArray, List.getElem_cons_zero, List.getElem_cons_succ, List.setIfInBounds_toArray, List.set_cons_zero, List.set_cons_succ]
  refine wpAnyH_take (i := 3) (v := ?_) rfl (by kernel_rfl) (by kernel_rfl) (by kernel_rfl) (fun _ _ _ h => h) (Or.inl ⟨by kernel_rfl, ?_⟩) (by assumption) ?_
  rotate_left 1
  · (intro w hSw; obtain ⟨hk1, hk2⟩ := hSw; go_simp <;> with_reducible rfl)
  simp only [Act.put, List.getElem_toArray, List.getElem_cons_zero, List.getElem_cons_succ, List.setIfInBounds_toArray, List.set_cons_zero, List.set_cons_succ]
  refine nextH (i := 1) (by kernel_rfl) rfl (fun K hK => ?_)
  go_simp
  refine (HCP.out _ (hr1.bel hSd.2)).mono ?_
  rintro e_ w5 ⟨⟨A5, c5, rfl, hx5, hc5⟩, hb5⟩
  have hB5 : Below w1.heap.size w1 w5 := bel_tr hSd.2 hSd.2.size hb5
  have hS5 := kp hB5
  try dsimp only
  refine hK _ _ hS5 ?_
  clear hK K hSd hb5
  have hSd := hS5
  clear hS5
  refine nextH (i := 4) (by kernel_rfl) rfl (fun K hK => ?_)
  go_simp
  refine (HPB.out A5 c5 w5 hx5 hc5).mono ?_
  rintro e_ w6 ⟨⟨A6, c6, B6, d6, rfl, hx6, hy6⟩, hb6⟩
  have HB1 : Below w1.heap.size w1 w6 := bel_tr hB5 hB5.size hb6
  have hS6 := kp HB1
  try dsimp only
  refine hK _ _ hS6 ?_
  clear hK K hSd hB5
  have hSd := hS6
  clear hS6
  refine wpAnyH_take (i := 5) (v := ?_) rfl (by kernel_rfl) (by kernel_rfl) (by kernel_rfl) (fun _ _ _ h => h) (Or.inl ⟨by kernel_rfl, ?_⟩) (by assumption) ?_
  rotate_left 1
  · (intro w hSw; obtain ⟨hk1, hk2⟩ := hSw; go_simp <;> with_reducible rfl)
  simp only [Act.put, List.getElem_toArray, List.getElem_cons_zero, List.getElem_cons_succ, List.setIfInBounds_toArray, List.set_cons_zero, List.set_cons_succ]
  refine wpAnyH_take (i := 6) (v := ?_) rfl (by kernel_rfl) (by kernel_rfl) (by kernel_rfl) (fun _ _ _ h => h) (Or.inl ⟨by kernel_rfl, ?_⟩) (by assumption) ?_
  rotate_left 1
  · (intro w hSw; obtain ⟨hk1, hk2⟩ := hSw; go_simp <;> with_reducible rfl)
  simp only [Act.put, List.getElem_toArray, List.getElem_cons_zero, List.getElem_cons_succ, List.setIfInBounds_toArray, List.set_cons_zero, List.set_cons_succ]
  refine wpAnyH_take (i := 7) (v := ?_) rfl (by kernel_rfl) (by kernel_rfl) (by kernel_rfl) (fun _ _ _ h => h) (Or.inl ⟨by kernel_rfl, ?_⟩) (by assumption) ?_
  rotate_left 1
  · (intro w hSw; obtain ⟨hk1, hk2⟩ := hSw; go_simp <;> with_reducible rfl)
  simp only [Act.put, List.getElem_toArray, List.getElem_cons_zero, List.getElem_cons_succ, List.setIfInBounds_toArray, List.set_cons_zero, List.set_cons_succ]
  refine wpAnyH_take (i := 8) (v := ?_) rfl (by kernel_rfl) (by kernel_rfl) (by kernel_rfl) (fun _ _ _ h => h) (Or.inl ⟨by kernel_rfl, ?_⟩) (by assumption) ?_
  rotate_left 1
  · (intro w hSw; obtain ⟨hk1, hk2⟩ := hSw; go_simp <;> with_reducible rfl)
  simp only [Act.put, List.getElem_toArray, List.getElem_cons_zero, List.getElem_cons_succ, List.setIfInBounds_toArray, List.set_cons_zero, List.set_cons_succ]
  refine wpAnyH_take (i := 9) (v := ?_) rfl (by kernel_rfl) (by kernel_rfl) (by kernel_rfl) (fun _ _ _ h => h) (Or.inl ⟨by kernel_rfl, ?_⟩) (by assumption) ?_
  rotate_left 1
  · (intro w hSw; obtain ⟨hk1, hk2⟩ := hSw; go_simp <;> with_reducible rfl)
  simp only [Act.put, List.getElem_toArray, List.getElem_cons_zero, List.getElem_cons_succ, List.setIfInBounds_toArray, List.set_cons_zero, List.set_cons_succ]
  refine wpAnyH_take (i := 10) (v := ?_) rfl (by kernel_rfl) (by kernel_rfl) (by kernel_rfl) (fun _ _ _ h => h) (Or.inl ⟨by kernel_rfl, ?_⟩) (by assumption) ?_
  rotate_left 1
  · (intro w hSw; obtain ⟨hk1, hk2⟩ := hSw; go_simp <;> with_reducible rfl)
  simp only [Act.put, List.getElem_toArray, List.getElem_cons_zero, List.getElem_cons_succ, List.setIfInBounds_toArray, List.set_cons_zero, List.set_cons_succ]
  refine wpAnyH_take (i := 11) (v := ?_) rfl (by kernel_rfl) (by kernel_rfl) (by kernel_rfl) (fun _ _ _ h => h) (Or.inl ⟨by kernel_rfl, ?_⟩) (by assumption) ?_
  rotate_left 1
  · (intro w hSw; obtain ⟨hk1, hk2⟩ := hSw; go_simp <;> with_reducible rfl)
  simp only [Act.put, List.getElem_toArray, List.getElem_cons_zero, List.getElem_cons_succ, List.setIfInBounds_toArray, List.set_cons_zero, List.set_cons_succ]
  refine wpAnyH_done (by kernel_rfl) ?_ _
  have hB6 := bel_tr hB1 hB1.size HB1
  have hr6 := hr1.bel HB1
  have hX6 := hX1.bel HB1
  clear c0 c1 c2 c3 HB1 hb6 hx5 hc5 hX1 hr1 hB1
  go_upto_region 8 with (first | (go_at_call 16; refine (HRQ.out _ hr6).mono ?_; rintro e_ w7 ⟨rfl, hb7⟩))
  have hX7 := hX6.bel hb7
  have hr7 := hr6.bel hb7
  have hx7 := hx6.bel hb7
  have hy7 := hy6.bel hb7
  have hz7 := hX7.lt
  have hB7 := bel_tr hB6 hB6.size hb7
  clear hX6 hr6 hx6 hy6 hB6 hb7
  have c0 := hX7.cell 0; have c1 := hX7.cell 1; have c2 := hX7.cell 2; have c3 := hX7.cell 3; simp only [List.getElem?_cons_zero, List.getElem?_cons_succ] at c0 c1 c2 c3
  go_upto_region 11 with (first | (go_at_call 17; refine (HPE.out _ hr7).mono ?_; rintro e_ w8 ⟨rfl, hb8⟩))
  have hX8 := hX7.bel hb8
  have hr8 := hr7.bel hb8
  have hx8 := hx7.bel hb8
  have hy8 := hy7.bel hb8
  have hz8 := hX8.lt
  have hB8 := bel_tr hB7 hB7.size hb8
  clear hX7 hr7 hx7 hy7 hB7 hb8 c0 c1 c2 c3
  have c0 := hX8.cell 0; have c1 := hX8.cell 1; have c2 := hX8.cell 2; have c3 := hX8.cell 3; simp only [List.getElem?_cons_zero, List.getElem?_cons_succ] at c0 c1 c2 c3
  go_wp2_with (first
    | (go_at_call 18; refine (HRP.out _ hr8).mono ?_; rintro e_ w9 ⟨⟨A9, c9, B9, d9, rfl, hx9, hy9⟩, hb9⟩)
    | (go_at_call 19; refine (HSI.out _ _ _ _ _ (hx8.bel hb9) hx9).mono ?_; rintro e_ w10 ⟨rfl, hb10⟩)
    | (go_at_call 20; refine (HTX.out _ _ _ _ _ ((hy8.bel hb9).bel hb10) (hy9.bel hb10)).mono ?_; rintro e_ w11 ⟨rfl, hb11⟩))
  go_ret
  have s8 := hB8.size
  have s9 := hb9.size
  have s10 := hb10.size
  exact ⟨rfl, bel_tr (bel_tr (bel_tr hB8 s8 hb9) (by omega) hb10) (by omega) hb11⟩
theorem putsLaw_c (A : Option Addr) (c : Nat) (q : List IT) (n : ByteArray) (p s t cp : Int) (w : World) (hr : Rd w A (its q)) (hc : q.length ≤ c) (hm : q.length ≤ maxLen) (hnm : n.size ≤ maxLen) :
    Calls Try.prog 4 #[.slice A q.length c, .agg #[.string n, .int .i64 p, .int .i64 s, .int .i64 t], .int .i64 cp] w fun r w' => r = .returned (.bool true) ∧ Below w.heap.size w w' := by
  by_cases hf : fewT q = true
  · by_cases hns : n.size ≤ 30
    · by_cases he : putE q (n, p, s, t) cp = 0
      · exact puts_ok q n p s t cp A c w hr hc hf hns he
      · exact puts_bad q n p s t cp A c w hr hc hf hns he
    · have HFEW := hide (fun W (h : Rd W A (its q)) => fewItems_c q A c W h hm)
      rw [hf] at HFEW
      have hn30 : (30 : Int) < (n.size : Int) := by omega
      have hX := Blk.new w 37 [.string n, .int .i64 p, .int .i64 s, .int .i64 t]
      have hbel := alloc_bel w (.cells #[.string n, .int .i64 p, .int .i64 s, .int .i64 t] 37)
      have hrW := hr.bel hbel
      generalize hW : w.alloc (.cells #[.string n, .int .i64 p, .int .i64 s, .int .i64 t] 37) = W0 at hX hbel hrW
      have HW := hide hW
      clear hf hm hc hW hns hnm
      go_enter Try.func4, Try.ntmps4
      go_upto_region 1 with fail
      rw [HW.out]
      go_upto_region 3 with (first
        | (go_at_call 7; refine (awake_c _).mono ?_; rintro e_ w1 ⟨rfl, hb1⟩))
      have hX1 := hX.bel hb1
      have hz1 := hX1.lt
      have c0 := hX1.cell 0; have c1 := hX1.cell 1; have c2 := hX1.cell 2; have c3 := hX1.cell 3; simp only [List.getElem?_cons_zero, List.getElem?_cons_succ] at c0 c1 c2 c3
      go_wp2_with (first
        | (go_at_call 8; refine (HFEW.out _ (hrW.bel hb1)).mono ?_; rintro e_ w_ ⟨rfl, rfl⟩))
      go_ret
      exact ⟨rfl, bel_tr hbel hbel.size hb1⟩
  · have hf := eq_false_of_ne_true hf
    have HFEW := hide (fun W (h : Rd W A (its q)) => fewItems_c q A c W h hm)
    rw [hf] at HFEW
    have hbel := alloc_bel w (.cells #[.string n, .int .i64 p, .int .i64 s, .int .i64 t] 37)
    have hrW := hr.bel hbel
    generalize hW : w.alloc (.cells #[.string n, .int .i64 p, .int .i64 s, .int .i64 t] 37) = W0 at hbel hrW
    have HW := hide hW
    clear hf hm hc hW hnm
    go_enter Try.func4, Try.ntmps4
    go_upto_region 1 with fail
    rw [HW.out]
    go_wp2_with (first
      | (go_at_call 7; refine (awake_c _).mono ?_; rintro e_ w1 ⟨rfl, hb1⟩)
      | (go_at_call 8; refine (HFEW.out _ (hrW.bel hb1)).mono ?_; rintro e_ w_ ⟨rfl, rfl⟩))
    go_ret
    exact ⟨rfl, bel_tr hbel hbel.size hb1⟩
end Go.Proofs.Ytohdjhdkmdhhcaa
