/- The law: nothing that matters more is dropped. -/
import Derived.Test.YtohdjhdkmdhhcaaE82
set_option linter.unusedSimpArgs false
set_option linter.unusedVariables false
set_option linter.unusedSimpArgs false
set_option linter.unusedVariables false
namespace Go.Proofs.Ytohdjhdkmdhhcaa
open Go.RowKit
set_option maxRecDepth 100000


theorem equal_item (x y : IT) (w : World) : (Op.equalIn 10000 37 (.agg #[.string x.1, .int .i64 x.2.1, .int .i64 x.2.2.1, .int .i64 x.2.2.2]) (.agg #[.string y.1, .int .i64 y.2.1, .int .i64 y.2.2.1, .int .i64 y.2.2.2])).run Try.prog w = .ok (decide (x = y)) w := by
  have h := eql_item x y w
  rw [run_eql_struct] at h
  generalize (Op.equalIn 10000 _ _ _).run Try.prog w = r at h ⊢
  cases r with
  | ok b w' =>
    simp only [Result.andThen_ok] at h ⊢
    injection h with h1 h2
    injection h1 with h1
    rw [h1, h2]
  | _ => cases h
/-- The item stays. -/
def stB (L : List IT) (y : IT) : Bool := L.any fun z => decide (z = y)
theorem stB_iff (L : List IT) (y : IT) : stB L y = true ↔ y ∈ L := by
  unfold stB
  rw [List.any_eq_true]
  constructor
  · rintro ⟨z, hz, h⟩
    rw [decide_eq_true_eq] at h
    exact h ▸ hz
  · intro h
    exact ⟨y, h, by simp⟩
theorem stB_take (L : List IT) (y : IT) {k : Nat} (hk : k < L.length) : stB (L.take (k + 1)) y = (stB (L.take k) y || decide (L[k] = y)) := by
  unfold stB
  rw [List.take_succ_eq_append_getElem hk, List.any_append]
  simp
/-- All that the law asks. -/
structure KeptOk (all L : List IT) (N : List ByteArray) (cap : Int) : Prop where
  small : SmallS L
  apart : ∀ y ∈ L, hasT N y.1 = false
  sum : sizeL L ≤ cap
  text : ∀ y ∈ all, hasT N y.1 = !stB L y
  worse : ∀ y ∈ all, stB L y = false → ∀ a ∈ L, ¬ betterI y a
theorem kept_ok {q : List IT} {x : IT} {cap : Int} (h : PutOk q x cap) : KeptOk (q ++ [x]) (putL q x cap).1 (putL q x cap).2 cap := by
  obtain ⟨D, h1, h2, h3⟩ := putL_inv (q := q) (x := x) h.c0
  have hn := names_nodup1 h.que h.item
  have hmem : ∀ y ∈ (putL q x cap).1, y ∈ q ++ [x] := fun y hy => h2.perm.mem_iff.1 (List.mem_append_left _ hy)
  have hT : ∀ y : IT, (hasT (putL q x cap).2 y.1 = true ↔ y.1 ∈ D.map (·.1)) := fun y => by rw [hasT_iff, h1]
  have hA : ∀ y ∈ q ++ [x], (stB (putL q x cap).1 y = true ∧ hasT (putL q x cap).2 y.1 = false) ∨ (stB (putL q x cap).1 y = false ∧ hasT (putL q x cap).2 y.1 = true ∧ ∀ a ∈ (putL q x cap).1, ¬ betterI y a) := fun y hy => by
    rcases h2.apart hn hy with ⟨ha, hb⟩ | ⟨ha, hb, hc⟩
    · refine .inl ⟨(stB_iff _ _).2 ha, ?_⟩
      cases e : hasT (putL q x cap).2 y.1
      · rfl
      · exact absurd ((hT y).1 e) hb
    · refine .inr ⟨?_, (hT y).2 hb, hc⟩
      cases e : stB (putL q x cap).1 y
      · rfl
      · exact absurd ((stB_iff _ _).1 e) ha
  refine ⟨fun y hy => small_all h.que h.item y (hmem y hy), fun y hy => ?_, h3, fun y hy => ?_, fun y hy hs => ?_⟩
  · rcases hA y (hmem y hy) with ⟨_, e⟩ | ⟨e, _⟩
    · exact e
    · rw [(stB_iff _ _).2 hy] at e; cases e
  · rcases hA y hy with ⟨e1, e2⟩ | ⟨e1, e2, _⟩ <;> rw [e1, e2] <;> rfl
  · rcases hA y hy with ⟨e1, _⟩ | ⟨_, _, e⟩
    · rw [e1] at hs; cases hs
    · exact e
set_option maxHeartbeats 4000000 in
theorem kept_bad (q : List IT) (n : ByteArray) (p s t cp : Int) (A : Option Addr) (c : Nat) (w : World) (hr : Rd w A (its q)) (hc : q.length ≤ c) (hf : fewT q = true) (hns : n.size ≤ 30) (he : putE q (n, p, s, t) cp ≠ 0) :
    Calls Try.prog 5 #[.slice A q.length c, .agg #[.string n, .int .i64 p, .int .i64 s, .int .i64 t], .int .i64 cp] w fun r w' => r = .returned (.bool true) ∧ Below w.heap.size w w' := by
  obtain ⟨hl, hnm⟩ := fewT_ok hf
  have hnm' : ∀ k (h : k < q.length), q[k].1.size ≤ 1000 := fun k h => by have := hnm k h; omega
  have hm : q.length ≤ maxLen := by unfold maxLen; omega
  have HFEW := hide (fun W (h : Rd W A (its q)) => fewItems_c q A c W h hm)
  rw [hf] at HFEW
  have hn30 : ¬ (30 : Int) < (n.size : Int) := by omega
  have HCP := hide (fun W (h : Rd W A (its q)) => copyItems_c q A c W h (by omega))
  have HRQ := hide (fun W (h : Rd W A (its q)) => refQueueErr_c q A c W h (by omega) hc hnm')
  have HPE := hide (fun W (h : Rd W A (its q)) => refPutErr_c q n p s t cp A c W h (by omega) (by omega))
  have hSE := putE_eq q (n, p, s, t) cp
  have hX := Blk.new w 37 [.string n, .int .i64 p, .int .i64 s, .int .i64 t]
  have hbel := alloc_bel w (.cells #[.string n, .int .i64 p, .int .i64 s, .int .i64 t] 37)
  have hrW := hr.bel hbel
  generalize hW : w.alloc (.cells #[.string n, .int .i64 p, .int .i64 s, .int .i64 t] 37) = W0 at hX hbel hrW
  have HW := hide hW
  have hzz := hX.lt
  clear hW hr
  generalize putE q (n, p, s, t) cp = E at *
  generalize (queE q).2 = Q at *
  generalize putErr q (n, p, s, t) cp = L at *
  by_cases hQ : Q = 0
  · rw [if_pos hQ] at hSE
    have q1 : (Q != 0) = false := by simpa using hQ
    have q2 : (L != 0) = true := by rw [← hSE]; simpa using he
    clear hQ hSE he
    clear hnm hnm' hf hm hl
    go_enter Try.func5, Try.ntmps5
    go_upto_region 1 with fail
    rw [HW.out]
    go_upto_region 3 with (first
      | (go_at_call 7; refine (awake_c _).mono ?_; rintro e_ w1 ⟨rfl, hb1⟩))
    have hB1 : Below w.heap.size w w1 := bel_tr hbel hbel.size hb1
    have hr1 := hrW.bel hb1
    have hX1 := hX.bel hb1
    have hz1 := hX1.lt
    clear hb1 hX hrW hbel
    have c0 := hX1.cell 0; have c1 := hX1.cell 1; have c2 := hX1.cell 2; have c3 := hX1.cell 3; simp only [List.getElem?_cons_zero, List.getElem?_cons_succ] at c0 c1 c2 c3
    go_wp2_with (first
      | (go_at_call 8; refine (HFEW.out _ hr1).mono ?_; rintro e_ w_ ⟨rfl, rfl⟩)
      | (go_at_call 16; refine (HRQ.out _ hr1).mono ?_; rintro e_ w2 ⟨rfl, hb2⟩; have hr2 := hr1.bel hb2; have hX2 := hX1.bel hb2; have hz2 := hX2.lt; have d0 := hX2.cell 0; have d1 := hX2.cell 1; have d2 := hX2.cell 2; have d3 := hX2.cell 3; simp only [List.getElem?_cons_zero, List.getElem?_cons_succ] at d0 d1 d2 d3)
      | (go_at_call 17; refine (HPE.out _ hr2).mono ?_; rintro e_ w3 ⟨rfl, hb3⟩))
    go_ret
    have s1 := hB1.size
    have s2 := hb2.size
    exact ⟨rfl, bel_tr (bel_tr hB1 s1 hb2) (by omega) hb3⟩
  · have q1 : (Q != 0) = true := by simpa using hQ
    clear hQ hSE he
    clear hnm hnm' hf hm hl
    go_enter Try.func5, Try.ntmps5
    go_upto_region 1 with fail
    rw [HW.out]
    go_upto_region 3 with (first
      | (go_at_call 7; refine (awake_c _).mono ?_; rintro e_ w1 ⟨rfl, hb1⟩))
    have hB1 : Below w.heap.size w w1 := bel_tr hbel hbel.size hb1
    have hr1 := hrW.bel hb1
    have hX1 := hX.bel hb1
    have hz1 := hX1.lt
    clear hb1 hX hrW hbel
    have c0 := hX1.cell 0; have c1 := hX1.cell 1; have c2 := hX1.cell 2; have c3 := hX1.cell 3; simp only [List.getElem?_cons_zero, List.getElem?_cons_succ] at c0 c1 c2 c3
    go_wp2_with (first
      | (go_at_call 8; refine (HFEW.out _ hr1).mono ?_; rintro e_ w_ ⟨rfl, rfl⟩)
      | (go_at_call 16; refine (HRQ.out _ hr1).mono ?_; rintro e_ w2 ⟨rfl, hb2⟩))
    go_ret
    exact ⟨rfl, bel_tr hB1 hB1.size hb2⟩
set_option maxHeartbeats 8000000 in
theorem kept_go (q : List IT) (n : ByteArray) (p s t cp : Int) (A : Option Addr) (c : Nat) (w : World) (hr : Rd w A (its q)) (hc : q.length ≤ c) (hf : fewT q = true) (hns : n.size ≤ 30) (he : putE q (n, p, s, t) cp = 0) :
    Calls Try.prog 5 #[.slice A q.length c, .agg #[.string n, .int .i64 p, .int .i64 s, .int .i64 t], .int .i64 cp] w fun r w' => r = .returned (.bool true) ∧ Below w.heap.size w w' := by
  obtain ⟨i0, hi, iz0, iz1, iz2⟩ := info_parts Try.infoT
  obtain ⟨hl, hnm⟩ := fewT_ok hf
  have hnm' : ∀ k (h : k < q.length), q[k].1.size ≤ 1000 := fun k h => by have := hnm k h; omega
  have hm : q.length ≤ maxLen := by unfold maxLen; omega
  have HFEW := hide (fun W (h : Rd W A (its q)) => fewItems_c q A c W h hm)
  rw [hf] at HFEW
  have hn30 : ¬ (30 : Int) < (n.size : Int) := by omega
  have HCP := hide (fun W (h : Rd W A (its q)) => copyItems_c q A c W h (by omega))
  have HRQ := hide (fun W (h : Rd W A (its q)) => refQueueErr_c q A c W h (by omega) hc hnm')
  have HPE := hide (fun W (h : Rd W A (its q)) => refPutErr_c q n p s t cp A c W h (by omega) (by omega))
  have hSE := putE_eq q (n, p, s, t) cp
  have hX := Blk.new w 37 [.string n, .int .i64 p, .int .i64 s, .int .i64 t]
  have hbel := alloc_bel w (.cells #[.string n, .int .i64 p, .int .i64 s, .int .i64 t] 37)
  have hrW := hr.bel hbel
  generalize hW : w.alloc (.cells #[.string n, .int .i64 p, .int .i64 s, .int .i64 t] 37) = W0 at hX hbel hrW
  have HW := hide hW
  have hzz := hX.lt
  clear hW hr
  have hq22 := hl
  have hok := putE_zero he
  have HK := hide (kept_ok hok)
  have hq0 := hok.que
  rw [if_pos hq0] at hSE
  have hL : putErr q (n, p, s, t) cp = 0 := by rw [← hSE]; exact he
  have HPB := hide (fun A' c' W (h : Rd W A' (its q)) (h2 : q.length ≤ c') => put_ok q n p s t cp A' c' W h (by omega) h2 hnm' (by omega) he)
  obtain ⟨l1, l2, l3⟩ := putL_len hok
  rw [hL] at HPE
  rw [hq0] at HRQ
  clear hok hq0 hL hSE he
  generalize putL q (n, p, s, t) cp = PL at HPB HK l1 l2 l3
  obtain ⟨L, N⟩ := PL
  dsimp only at HPB HK l1 l2 l3
  have k1 : IntKind.i64.wrap ((L.length : Int) + (N.length : Int)) = (q.length : Int) + 1 := by rw [IntKind.wrap_i64]; omega
  have k2 : IntKind.i64.wrap ((q.length : Int) + 1) = (q.length : Int) + 1 := by rw [IntKind.wrap_i64]; omega
  have k3 : (((q.length : Int) + 1) != ((q.length : Int) + 1)) = false := by simp
  have k4 : ((L.length : Int) + (N.length : Int) != (q.length : Int) + 1) = false := by simp; omega
  clear hnm hnm' hf hm hl
  go_enter Try.func5, Try.ntmps5
  go_upto_region 1 with fail
  rw [HW.out]
  go_upto_region 3 with (first
    | (go_at_call 7; refine (awake_c _).mono ?_; rintro e_ w1 ⟨rfl, hb1⟩))
  have hB1 : Below w.heap.size w w1 := bel_tr hbel hbel.size hb1
  have hr1 := hrW.bel hb1
  have hX1 := hX.bel hb1
  have hz1 := hX1.lt
  clear hb1 hX hrW hbel
  have c0 := hX1.cell 0; have c1 := hX1.cell 1; have c2 := hX1.cell 2; have c3 := hX1.cell 3; simp only [List.getElem?_cons_zero, List.getElem?_cons_succ] at c0 c1 c2 c3
  go_upto_region 5 with (first
    | (go_at_call 8; refine (HFEW.out _ hr1).mono ?_; rintro e_ w_ ⟨rfl, rfl⟩)
    | (go_at_call 16; refine (HRQ.out _ hr1).mono ?_; rintro e_ w2 ⟨rfl, hb2⟩; have hr2 := hr1.bel hb2; have hX2 := hX1.bel hb2; have hz2 := hX2.lt; have d0 := hX2.cell 0; have d1 := hX2.cell 1; have d2 := hX2.cell 2; have d3 := hX2.cell 3; simp only [List.getElem?_cons_zero, List.getElem?_cons_succ] at d0 d1 d2 d3)
    | (go_at_call 17; refine (HPE.out _ hr2).mono ?_; rintro e_ w3 ⟨rfl, hb3⟩))
  have hX3 := hX2.bel hb3
  have hr3 := hr2.bel hb3
  have hz3 := hX3.lt
  have hB3 := bel_tr (bel_tr hB1 hB1.size hb2) (by have := hB1.size; have := hb2.size; omega) hb3
  clear hX1 hX2 hr1 hr2 hB1 hb2 hb3 c0 c1 c2 c3 d0 d1 d2 d3
  have c0 := hX3.cell 0; have c1 := hX3.cell 1; have c2 := hX3.cell 2; have c3 := hX3.cell 3; simp only [List.getElem?_cons_zero, List.getElem?_cons_succ] at c0 c1 c2 c3
  have hSd : (∀ b o, b < w3.heap.size → w3.drew.cell? ⟨b, o, none⟩ = w3.cell? ⟨b, o, none⟩) ∧ Below w3.heap.size w3 w3.drew := kp (Below.refl _ _).drew
  refine wp_region_held (S := fun w' => (∀ b o, b < w3.heap.size → w'.cell? ⟨b, o, none⟩ = w3.cell? ⟨b, o, none⟩) ∧ Below w3.heap.size w3 w') (by kernel_rfl) ?_
  change wpAnyH _ _ _ _ _ _ _ _ w3.drew
  refine wpAnyH_take (i := 0) (v := ?_) rfl (by kernel_rfl) (by kernel_rfl) (by kernel_rfl) (fun _ _ _ h => h) (Or.inl ⟨by kernel_rfl, ?_⟩) (by assumption) ?_
  rotate_left 1
  · (intro w hSw; obtain ⟨hk1, hk2⟩ := hSw; go_simp <;> with_reducible rfl)
  simp only [Act.put, List.getElem_toArray, List.getElem_cons_zero, List.setIfInBounds_toArray, List.set_cons_zero, List.set_cons_succ]
  refine wpAnyH_take (i := 2) (v := ?_) rfl (by kernel_rfl) (by kernel_rfl) (by kernel_rfl) (fun _ _ _ h => h) (Or.inl ⟨by kernel_rfl, ?_⟩) (by assumption) ?_
  rotate_left 1
  · (intro w hSw; obtain ⟨hk1, hk2⟩ := hSw; go_simp <;> with_reducible rfl)
  simp only [Act.put, List.getElem_toArray, List.getElem_cons_zero, List.getElem_cons_succ, List.setIfInBounds_toArray, List.set_cons_zero, List.set_cons_succ]
  refine wpAnyH_take (i := 3) (v := ?_) rfl (by kernel_rfl) (by kernel_rfl) (by kernel_rfl) (fun _ _ _ h => h) (Or.inl ⟨by kernel_rfl, ?_⟩) (by assumption) ?_
  rotate_left 1
  · (intro w hSw; obtain ⟨hk1, hk2⟩ := hSw; go_simp <;> with_reducible rfl)
  simp only [Act.put, List.getElem_toArray, List.getElem_cons_zero, List.getElem_cons_succ, List.setIfInBounds_toArray, List.set_cons_zero, List.set_cons_succ]
  refine nextH (i := 1) (by kernel_rfl) rfl (fun K hK => ?_)
  go_simp
  refine (HCP.out _ (hr3.bel hSd.2)).mono ?_
  rintro e_ w5 ⟨⟨A5, c5, rfl, hx5, hc5⟩, hb5⟩
  have hB5 : Below w3.heap.size w3 w5 := bel_tr hSd.2 hSd.2.size hb5
  have hS5 := kp hB5
  try dsimp only
  refine hK _ _ hS5 ?_
  clear hK K hSd hb5
  have hSd := hS5
  clear hS5
  refine nextH (i := 4) (by kernel_rfl) rfl (fun K hK => ?_)
  go_simp
  refine (HPB.out A5 c5 w5 hx5 hc5).mono ?_
  rintro e_ w6 ⟨⟨A6, c6, B6, d6, rfl, hx6, hy6⟩, hb6⟩
  have HB1 : Below w3.heap.size w3 w6 := bel_tr hB5 hB5.size hb6
  have hS6 := kp HB1
  try dsimp only
  refine hK _ _ hS6 ?_
  clear hK K hSd hB5
  have hSd := hS6
  clear hS6
  refine wpAnyH_take (i := 5) (v := ?_) rfl (by kernel_rfl) (by kernel_rfl) (by kernel_rfl) (fun _ _ _ h => h) (Or.inl ⟨by kernel_rfl, ?_⟩) (by assumption) ?_
  rotate_left 1
  · (intro w hSw; obtain ⟨hk1, hk2⟩ := hSw; go_simp <;> with_reducible rfl)
  simp only [Act.put, List.getElem_toArray, List.getElem_cons_zero, List.getElem_cons_succ, List.setIfInBounds_toArray, List.set_cons_zero, List.set_cons_succ]
  refine wpAnyH_take (i := 6) (v := ?_) rfl (by kernel_rfl) (by kernel_rfl) (by kernel_rfl) (fun _ _ _ h => h) (Or.inl ⟨by kernel_rfl, ?_⟩) (by assumption) ?_
  rotate_left 1
  · (intro w hSw; obtain ⟨hk1, hk2⟩ := hSw; go_simp <;> with_reducible rfl)
  simp only [Act.put, List.getElem_toArray, List.getElem_cons_zero, List.getElem_cons_succ, List.setIfInBounds_toArray, List.set_cons_zero, List.set_cons_succ]
  refine wpAnyH_take (i := 7) (v := ?_) rfl (by kernel_rfl) (by kernel_rfl) (by kernel_rfl) (fun _ _ _ h => h) (Or.inl ⟨by kernel_rfl, ?_⟩) (by assumption) ?_
  rotate_left 1
  · (intro w hSw; obtain ⟨hk1, hk2⟩ := hSw; go_simp <;> with_reducible rfl)
  simp only [Act.put, List.getElem_toArray, List.getElem_cons_zero, List.getElem_cons_succ, List.setIfInBounds_toArray, List.set_cons_zero, List.set_cons_succ]
  refine wpAnyH_take (i := 8) (v := ?_) rfl (by kernel_rfl) (by kernel_rfl) (by kernel_rfl) (fun _ _ _ h => h) (Or.inl ⟨by kernel_rfl, ?_⟩) (by assumption) ?_
  rotate_left 1
  · (intro w hSw; obtain ⟨hk1, hk2⟩ := hSw; go_simp <;> with_reducible rfl)
  simp only [Act.put, List.getElem_toArray, List.getElem_cons_zero, List.getElem_cons_succ, List.setIfInBounds_toArray, List.set_cons_zero, List.set_cons_succ]
  refine wpAnyH_take (i := 9) (v := ?_) rfl (by kernel_rfl) (by kernel_rfl) (by kernel_rfl) (fun _ _ _ h => h) (Or.inl ⟨by kernel_rfl, ?_⟩) (by assumption) ?_
  rotate_left 1
  · (intro w hSw; obtain ⟨hk1, hk2⟩ := hSw; go_simp <;> with_reducible rfl)
  simp only [Act.put, List.getElem_toArray, List.getElem_cons_zero, List.getElem_cons_succ, List.setIfInBounds_toArray, List.set_cons_zero, List.set_cons_succ]
  refine wpAnyH_take (i := 10) (v := ?_) rfl (by kernel_rfl) (by kernel_rfl) (by kernel_rfl) (fun _ _ _ h => h) (Or.inl ⟨by kernel_rfl, ?_⟩) (by assumption) ?_
  rotate_left 1
  · (intro w hSw; obtain ⟨hk1, hk2⟩ := hSw; go_simp <;> with_reducible rfl)
  simp only [Act.put, List.getElem_toArray, List.getElem_cons_zero, List.getElem_cons_succ, List.setIfInBounds_toArray, List.set_cons_zero, List.set_cons_succ]
  refine wpAnyH_take (i := 11) (v := ?_) rfl (by kernel_rfl) (by kernel_rfl) (by kernel_rfl) (fun _ _ _ h => h) (Or.inl ⟨by kernel_rfl, ?_⟩) (by assumption) ?_
  rotate_left 1
  · (intro w hSw; obtain ⟨hk1, hk2⟩ := hSw; go_simp <;> with_reducible rfl)
  simp only [Act.put, List.getElem_toArray, List.getElem_cons_zero, List.getElem_cons_succ, List.setIfInBounds_toArray, List.set_cons_zero, List.set_cons_succ]
  refine wpAnyH_done (by kernel_rfl) ?_ _
  have hB6 := bel_tr hB3 hB3.size HB1
  have hr6 := hr3.bel HB1
  have hX6 := hX3.bel HB1
  clear c0 c1 c2 c3 HB1 hb6 hx5 hc5 hX3 hr3 hB3
  clear hSd HFEW HRQ HPE HPB
  have HL3 := hide l3
  clear l3
  go_wp2
  go_loopw [10, 11] (fun x i wr => ∃ k : Nat, k ≤ L.length ∧ i = .int .i64 k ∧ x = .int .i64 (sizeL (L.take k)) ∧ w6 = wr) (fun _ i _ => L.length - (intOf i).toNat)
  case atStart => exact ⟨0, Nat.zero_le _, rfl, by simp [sizeL], rfl⟩
  case round =>
    obtain ⟨k, hk, rfl, rfl, rfl⟩ := hrel
    by_cases hlt : k < L.length
    · obtain ⟨b, off, rfl, hblt, x0, x1, x2, x3⟩ := hx6.it_at hlt
      have HWI := hide (fun x lo hi W => within_c x lo hi W)
      have HHT := hide (fun sx W => fun (h : Rd W B6 (txs N)) => hasText_c N sx B6 d6 W h (by omega))
      have hap := HK.out.apart L[k] (List.getElem_mem hlt)
      have hsm := HK.out.small L[k] (List.getElem_mem hlt)
      have HN := hide (sizeL_take L hlt)
      have h1 := sizeL_bd (SmallS.take HK.out.small k)
      rw [List.length_take] at h1
      generalize L[k].1 = nam at x0 hap
      generalize L[k].2.2.1 = sz at x2 HN hsm
      have w1' : IntKind.i64.wrap (sizeL (L.take k) + sz) = sizeL (L.take k) + sz := by rw [IntKind.wrap_i64]; omega
      have ho : outB sz 1 10000 = false := outB_false.2 hsm
      clear h1 hsm
      go_wp2_with (first
        | (go_at_call 21; refine (HWI.out _ _ _ _).mono ?_; rintro e_ w_ ⟨rfl, rfl⟩; rw [ho])
        | (go_at_call 22; refine (HHT.out _ _ hy6).mono ?_; rintro e_ w_ ⟨rfl, rfl⟩; rw [hap]))
      go_roundw
      case rel => exact ⟨k + 1, by omega, by go_num, by rw [HN.out], trivial⟩
      case measure => simp [intOf]; omega
    · have HV : Hid (sizeL (L.take k) = sizeL L) := by show _ = _; rw [List.take_of_length_le (by omega)]
      have hsum : ¬ cp < sizeL L := by have := HK.out.sum; omega
      have hsum' : ¬ cp < sizeL (L.take k) := by rw [HV.out]; exact hsum
      have hB6s := hB6.size
      clear HV hsum
      go_upto_region 17 with fail
      obtain ⟨w2, hw2⟩ : ∃ w2 : World, w2 = w6 := ⟨_, rfl⟩
      rw [← hw2] at hB6 hr6 hX6 hx6 hy6 hB6s ⊢
      clear hw2
      have hB2 := hB6
      have hB2s := hB6s
      have hr2 := hr6
      have hX2 := hX6
      have hz2 := hX6.lt
      have hl : q.length ≤ 1000 := by omega
      clear hB6 hr6 hX6 hB6s
      have d0 := hX2.cell 0; have d1 := hX2.cell 1; have d2 := hX2.cell 2; have d3 := hX2.cell 3; simp only [List.getElem?_cons_zero, List.getElem?_cons_succ] at d0 d1 d2 d3
      go_cut [12] from 94 to 98 (fun v wx => ∃ g cap : Nat, v = .slice (some ⟨g, 0, none⟩) (q ++ [(n, p, s, t)]).length cap ∧ wx.ownsRow w.heap.size 37 4 (.slice (some ⟨g, 0, none⟩) (q ++ [(n, p, s, t)]).length cap) (q ++ [(n, p, s, t)]).length (its (q ++ [(n, p, s, t)])) ∧ Below w2.heap.size w2 wx)
      case first =>
        have hSd : (∀ b o, b < w2.heap.size → w2.drew.cell? ⟨b, o, none⟩ = w2.cell? ⟨b, o, none⟩) ∧ Below w2.heap.size w2 w2.drew := kp (Below.refl _ _).drew
        refine wp_region_held (S := fun w' => (∀ b o, b < w2.heap.size → w'.cell? ⟨b, o, none⟩ = w2.cell? ⟨b, o, none⟩) ∧ Below w2.heap.size w2 w') (by kernel_rfl) ?_
        change wpAnyH _ _ _ _ _ _ _ _ w2.drew
        refine wpAnyH_take (i := 0) (v := ?_) rfl (by kernel_rfl) (by kernel_rfl) (by kernel_rfl) (fun _ _ _ h => h) (Or.inl ⟨by kernel_rfl, ?_⟩) (by assumption) ?_
        rotate_left 1
        · (intro w hSw; obtain ⟨hk1, hk2⟩ := hSw; go_simp <;> with_reducible rfl)
        simp only [Act.put, List.getElem_toArray, List.getElem_cons_zero, List.setIfInBounds_toArray, List.set_cons_zero, List.set_cons_succ]
        refine wpAnyH_take (i := 2) (v := ?_) rfl (by kernel_rfl) (by kernel_rfl) (by kernel_rfl) (fun _ _ _ h => h) (Or.inl ⟨by kernel_rfl, ?_⟩) (by assumption) ?_
        rotate_left 1
        · (intro w hSw; obtain ⟨hk1, hk2⟩ := hSw; go_simp <;> with_reducible rfl)
        simp only [Act.put, List.getElem_toArray, List.getElem_cons_zero, List.getElem_cons_succ, List.setIfInBounds_toArray, List.set_cons_zero, List.set_cons_succ]
        refine nextH2 (i := 1) (j := 3) (by kernel_rfl) rfl rfl (fun K hK => ?_) (fun K hK => ?_)
        · go_simp
          refine (copyItemsOwn_c q A c _ (hr2.bel (Below.refl _ _).drew) (by omega)).mono ?_
          rintro e_ w6 ⟨⟨A6, c6, rfl, own6⟩, hb6⟩
          try dsimp only
          have hB6 : Below w2.heap.size w2 w6 := bel_tr hSd.2 hSd.2.size hb6
          have hS6 := kp hB6
          refine hK _ _ hS6 ?_
          clear hK K hSd
          refine nextH (i := 3) (by kernel_rfl) rfl (fun K hK => ?_)
          go_simp
          obtain ⟨w7, hw7⟩ : ∃ w7, w6.alloc (.cells #[.string n, .int .i64 p, .int .i64 s, .int .i64 t] 37) = w7 := ⟨_, rfl⟩
          have hb7 : Below w6.heap.size w6 w7 := by rw [← hw7]; exact alloc_bel _ _
          have hnew : Blk w7 w6.heap.size 37 [.string n, .int .i64 p, .int .i64 s, .int .i64 t] := by rw [← hw7]; exact Blk.new w6 _ [_, _, _, _]
          have hB7 := bel_tr hB6 hB6.size hb7
          have hS7 := kp hB7
          rw [hw7]
          clear hw7
          try dsimp only
          refine hK _ _ hS7 ?_
          clear hK K
          have hba1 : w2.heap.size ≤ w2.heap.size := Nat.le_refl _
          have hba2 : w2.heap.size ≤ w7.heap.size := hB7.size
          have own7 : w7.ownsRow w2.heap.size 37 4 (.slice A6 q.length c6) q.length (its q) := ownsRow_bel own6 hb7
          refine nextH (i := 4) (by kernel_rfl) rfl (fun K hK => ?_)
          refine step_append_lies w7 (by rfl) _ _ _ (by rfl) w2.heap.size 37 i0 _ 4 40 Try.underlying22 hi iz0 iz1 iz2 rfl (by decide) _ q.length (its q) (by rfl) own7 ⟨_, 0, none⟩ 1 1 [.string n, .int .i64 p, .int .i64 s, .int .i64 t] (by rfl) rfl (World.news_of_block hnew) (by simp [Value.oneCell']) (by decide) (by unfold maxLen; omega) (by omega) (by omega) _ rfl ?_
          intro g8 cap8 w8 own8 hg8 _ hz8
          have hB8 : Below w2.heap.size w2 w8 := Below.grown hB7 hg8 (hB7).size (fun j hj => by have := own7.lt j hj; omega)
          have hS8 := kp hB8
          simp only [Act.put, List.getElem_toArray, List.getElem_cons_zero, List.getElem_cons_succ, List.setIfInBounds_toArray, List.set_cons_zero, List.set_cons_succ]
          refine hK _ _ hS8 ?_
          clear hK K
          refine nextH (i := 5) (by kernel_rfl) rfl (fun K hK => ?_)
          go_simp
          refine hK _ _ hS8 ?_
          clear hK K
          refine wpAnyH_done (by kernel_rfl) ?_ _
          have own9 : w8.ownsRow w.heap.size 37 4 (.slice (some ⟨g8, 0, none⟩) (q ++ [(n, p, s, t)]).length cap8) (q ++ [(n, p, s, t)]).length (its (q ++ [(n, p, s, t)])) := by
            rw [its_append, List.length_append, List.length_singleton]
            exact own_mono own8 (by omega)
          go_wp2
          go_meet
          exact ⟨g8, cap8, by rw [List.length_append, List.length_singleton], own9, hB8⟩
        · go_simp
          obtain ⟨w6, hw6⟩ : ∃ w6, (w2.alloc (.cells #[.string n, .int .i64 p, .int .i64 s, .int .i64 t] 37)).drew = w6 := ⟨_, rfl⟩
          have hb6 : Below w2.heap.size w2 w6 := by rw [← hw6]; exact (alloc_bel _ _).drew
          have hnew0 : Blk w6 w2.heap.size 37 [.string n, .int .i64 p, .int .i64 s, .int .i64 t] := by rw [← hw6]; exact (Blk.new w2 _ [_, _, _, _]).drewN 1
          have hS6 := kp hb6
          rw [hw6]
          clear hw6
          try dsimp only
          refine hK _ _ hS6 ?_
          clear hK K hSd
          refine nextH (i := 1) (by kernel_rfl) rfl (fun K hK => ?_)
          go_simp
          refine (copyItemsOwn_c q A c w6 (hr2.bel hb6) (by omega)).mono ?_
          rintro e_ w7 ⟨⟨A6, c6, rfl, own7⟩, hb7⟩
          try dsimp only
          have hnew := hnew0.bel hb7
          have hB7 : Below w2.heap.size w2 w7 := bel_tr hb6 hb6.size hb7
          have hS7 := kp hB7
          refine hK _ _ hS7 ?_
          clear hK K
          have hba1 : w2.heap.size ≤ w6.heap.size := hb6.size
          have hba2 : w6.heap.size ≤ w7.heap.size := hb7.size
          refine nextH (i := 4) (by kernel_rfl) rfl (fun K hK => ?_)
          refine step_append_lies w7 (by rfl) _ _ _ (by rfl) w6.heap.size 37 i0 _ 4 40 Try.underlying22 hi iz0 iz1 iz2 rfl (by decide) _ q.length (its q) (by rfl) own7 ⟨_, 0, none⟩ 1 1 [.string n, .int .i64 p, .int .i64 s, .int .i64 t] (by rfl) rfl (World.news_of_block hnew) (by simp [Value.oneCell']) (by decide) (by unfold maxLen; omega) (by omega) (by omega) _ rfl ?_
          intro g8 cap8 w8 own8 hg8 _ hz8
          have hB8 : Below w2.heap.size w2 w8 := Below.grown hB7 hg8 (hB7).size (fun j hj => by have := own7.lt j hj; omega)
          have hS8 := kp hB8
          simp only [Act.put, List.getElem_toArray, List.getElem_cons_zero, List.getElem_cons_succ, List.setIfInBounds_toArray, List.set_cons_zero, List.set_cons_succ]
          refine hK _ _ hS8 ?_
          clear hK K
          refine nextH (i := 5) (by kernel_rfl) rfl (fun K hK => ?_)
          go_simp
          refine hK _ _ hS8 ?_
          clear hK K
          refine wpAnyH_done (by kernel_rfl) ?_ _
          have own9 : w8.ownsRow w.heap.size 37 4 (.slice (some ⟨g8, 0, none⟩) (q ++ [(n, p, s, t)]).length cap8) (q ++ [(n, p, s, t)]).length (its (q ++ [(n, p, s, t)])) := by
            rw [its_append, List.length_append, List.length_singleton]
            exact own_mono own8 (by omega)
          go_wp2
          go_meet
          exact ⟨g8, cap8, by rw [List.length_append, List.length_singleton], own9, hB8⟩
      obtain ⟨g, cap, rfl, own, hBw⟩ := hcut
      have hall := Rd.of_own own
      have hxw := hx6.bel hBw
      have hyw := hy6.bel hBw
      have hBW := bel_tr hB2 hB2s hBw
      have hlen1 : (q ++ [(n, p, s, t)]).length ≤ 23 := by rw [List.length_append, List.length_singleton]; omega
      clear own hBw hx6 hy6 hX2 hr2 d0 d1 d2 d3 hB2 hB2s hz2 HCP HL3 hsum'
      generalize q ++ [(n, p, s, t)] = all at HK hall hlen1 ⊢
      go_wp2
      go_loopw [13] (fun x wr => ∃ i : Nat, i ≤ all.length ∧ x = .int .i64 i ∧ Below wc.heap.size wc wr) (fun x _ => all.length - (intOf x).toNat)
      case atStart => exact ⟨0, Nat.zero_le _, rfl, Below.refl _ _⟩
      case round =>
        obtain ⟨i, hil, rfl, hb⟩ := hrel
        by_cases hlt : i < all.length
        · have htx := HK.out.text all[i] (List.getElem_mem hlt)
          have hwo := hide (HK.out.worse all[i] (List.getElem_mem hlt))
          obtain ⟨wo, rfl⟩ : ∃ wo : World, wo = wr := ⟨_, rfl⟩
          generalize hy : all[i] = y at htx hwo
          have HY := hide hy
          clear hy
          have s4 : (wo : World) = wo := rfl
          clear s4
          go_wp2
          go_loopw [14, 15] (fun v x wi => ∃ k : Nat, k ≤ L.length ∧ x = .int .i64 k ∧ v = .bool (stB (L.take k) y) ∧ Below wc.heap.size wc wi) (fun _ x _ => L.length - (intOf x).toNat)
          case atStart => exact ⟨0, Nat.zero_le _, rfl, rfl, hb⟩
          case round =>
            obtain ⟨k, hk, rfl, rfl, hbi⟩ := hrel
            by_cases hlk : k < L.length
            · have HT := hide (stB_take L y hlk)
              obtain ⟨b, off, rfl, hblt, x0, x1, x2, x3⟩ := (hxw.bel hbi).it_at hlk
              obtain ⟨bg, og, eg, hbg, y0, y1, y2, y3⟩ := (hall.bel hbi).it_at hlt
              injection eg with eg
              injection eg with e1 e2
              subst e1 e2
              rw [HY.out] at y0 y1 y2 y3
              simp only [Nat.zero_add] at y0 y1 y2 y3
              cases hst : stB (L.take k) y
              · rw [hst] at HT
                have hq := fun W => equal_item L[k] y W
                generalize decide (L[k] = y) = d at hq HT
                have HT' : Hid (d = stB (L.take (k + 1)) y) := by show _ = _; rw [HT.out]; rfl
                clear HT hst
                go_wp2
                go_quiet (fail)
                go_wp2
                exact ⟨⟨k + 1, by omega, by go_num, by rw [HT'.out], below_drewN hbi _⟩, by simp [intOf]; omega⟩
              · rw [hst] at HT
                have HT' : Hid (true = stB (L.take (k + 1)) y) := by show _ = _; rw [HT.out]; rfl
                clear HT hst
                go_wp2
                go_quiet (fail)
                go_wp2
                exact ⟨⟨k + 1, by omega, by go_num, by rw [HT'.out], below_drewN hbi _⟩, by simp [intOf]; omega⟩
            · have hst0 : stB (L.take k) y = stB L y := by rw [List.take_of_length_le (by omega)]
              rw [hst0]
              clear hst0
              have HHT := hide (fun sx W => fun (h : Rd W B6 (txs N)) => hasText_c N sx B6 d6 W h (by omega))
              obtain ⟨bg, og, eg, hbg, y0, y1, y2, y3⟩ := (hall.bel hbi).it_at hlt
              injection eg with eg
              injection eg with e1 e2
              subst e1 e2
              rw [HY.out] at y0 y1 y2 y3
              simp only [Nat.zero_add] at y0 y1 y2 y3
              cases hst : stB L y
              · rw [hst] at htx hwo
                have hwo2 := hide (hwo.out rfl)
                clear hwo hst
                simp only [Bool.not_false] at htx
                have hu4 := Try.underlying4
                go_wp2_with (first | (go_at_call 22; refine (HHT.out _ _ (hyw.bel hbi)).mono ?_; rintro e_ w_ ⟨rfl, rfl⟩; rw [htx]))
                clear y0 y1 y2 y3
                go_loopw [16] (fun x wj => ∃ m : Nat, m ≤ L.length ∧ x = .int .i64 m ∧ Below wc.heap.size wc wj) (fun x _ => L.length - (intOf x).toNat)
                case atStart => exact ⟨0, Nat.zero_le _, rfl, hbi⟩
                case round =>
                  obtain ⟨m, hm, rfl, hbj⟩ := hrel
                  by_cases hlm : m < L.length
                  · obtain ⟨b, off, rfl, hblt, x0, x1, x2, x3⟩ := (hxw.bel hbj).it_at hlm
                    obtain ⟨bg, og, eg, hbg, y0, y1, y2, y3⟩ := (hall.bel hbj).it_at hlt
                    injection eg with eg
                    injection eg with e1 e2
                    subst e1 e2
                    rw [HY.out] at y0 y1 y2 y3
                    simp only [Nat.zero_add] at y0 y1 y2 y3
                    have hnb := hwo2.out L[m] (List.getElem_mem hlm)
                    unfold betterI at hnb
                    generalize L[m].2.1 = P2 at x1 hnb
                    generalize L[m].2.2.2 = T2 at x3 hnb
                    generalize y.2.1 = P1 at y1 hnb
                    generalize y.2.2.2 = T1 at y3 hnb
                    have g1 : decide (P2 < P1) = false := decide_eq_false (by omega)
                    have g1' : ¬ P2 < P1 := by omega
                    clear x0 x2 y0 y2
                    by_cases hP : P1 = P2
                    · have g2 : (P1 == P2) = true := by simpa using hP
                      have g3 : decide (T1 < T2) = false := decide_eq_false (by omega)
                      clear hP hnb
                      go_wp2
                      go_quiet (fail)
                      go_wp2
                      exact ⟨⟨m + 1, by omega, by go_num, below_drewN hbj _⟩, by simp [intOf]; omega⟩
                    · have g2 : (P1 == P2) = false := by simpa using hP
                      clear hP hnb
                      go_wp2
                      go_quiet (fail)
                      go_wp2
                      exact ⟨⟨m + 1, by omega, by go_num, below_drewN hbj _⟩, by simp [intOf]; omega⟩
                  · go_wp2
                    go_roundw
                    case rel => exact ⟨i + 1, by omega, by go_num, hbj⟩
                    case measure => simp [intOf]; omega
              · rw [hst] at htx
                clear hwo hst
                simp only [Bool.not_true] at htx
                have hu4 := Try.underlying4
                go_wp2_with (first | (go_at_call 22; refine (HHT.out _ _ (hyw.bel hbi)).mono ?_; rintro e_ w_ ⟨rfl, rfl⟩; rw [htx]))
                go_loopw [16] (fun x wj => x = .int .i64 0 ∧ Below wc.heap.size wc wj) (fun _ _ => 0)
                case atStart => exact ⟨rfl, hbi⟩
                case round =>
                  obtain ⟨rfl, hbj⟩ := hrel
                  by_cases hz : 0 < L.length
                  · have hz1 : (0 : Int) < (L.length : Int) := by omega
                    go_wp2
                    go_roundw
                    case rel => exact ⟨i + 1, by omega, by go_num, hbj⟩
                    case measure => simp [intOf]; omega
                  · have hz1 : ¬ (0 : Int) < (L.length : Int) := by omega
                    go_wp2
                    go_roundw
                    case rel => exact ⟨i + 1, by omega, by go_num, hbj⟩
                    case measure => simp [intOf]; omega
        · go_wp2
          go_ret
          exact ⟨rfl, bel_tr hBW hBW.size hb⟩
end Go.Proofs.Ytohdjhdkmdhhcaa
