/- Contracts: true and virtual heights. -/
import Derived.Test.YtdeehodekilaiaaF5
set_option linter.unusedSimpArgs false
set_option linter.unusedVariables false
namespace Go.Proofs.Ytdeehodekilaiaa
open Go.RowKit
set_option maxRecDepth 100000
attribute [local go_sem] Oper.semAt_some

/-- The answer of ReflectedAt. -/
def reflR (base : Int) (l : List G) (f : Int) : Int × Int × Int :=
  if firstE [(proE base l).2, freqE f] = 0 then (if passN l f = l.length then (0, 0, 21) else (hgt base l (passN l f), passN l f, 0)) else (0, 0, firstE [(proE base l).2, freqE f])

theorem firstError_b2 (a b : Int) (g : Nat) (W : World) (h : Blk W g 31 [.int .i64 a, .int .i64 b]) : Calls Try.prog 33 #[.slice (some ⟨g, 0, none⟩) 2 2] W fun r w' => r = .returned (.int .i64 (firstE [a, b])) ∧ W = w' :=
  firstError_c [a, b] _ 2 W (h.rd (List.prefix_refl _)) (by simp)

/-- Four new blocks. -/
theorem new4 (W W2 : World) (t0 t1 t2 t3 : TypeId) (a b c d : List Value) (h : (((W.alloc (.cells a.toArray t0)).alloc (.cells b.toArray t1)).alloc (.cells c.toArray t2)).alloc (.cells d.toArray t3) = W2) :
    W2.heap.size = W.heap.size + 4 ∧ Blk W2 W.heap.size t0 a ∧ Blk W2 (W.heap.size + 1) t1 b ∧ Blk W2 (W.heap.size + 2) t2 c ∧ Blk W2 (W.heap.size + 3) t3 d ∧ Below W.heap.size W W2 := by
  subst h
  refine ⟨by simp, (((Blk.new W t0 a).bel (alloc_bel _ _)).bel (alloc_bel _ _)).bel (alloc_bel _ _), ?_, ?_, ?_, ?_⟩
  · have := ((Blk.new (W.alloc (.cells a.toArray t0)) t1 b).bel (alloc_bel _ (.cells c.toArray t2))).bel (alloc_bel _ (.cells d.toArray t3))
    rwa [show (W.alloc (.cells a.toArray t0)).heap.size = W.heap.size + 1 by simp] at this
  · have := (Blk.new ((W.alloc (.cells a.toArray t0)).alloc (.cells b.toArray t1)) t2 c).bel (alloc_bel _ (.cells d.toArray t3))
    rwa [show ((W.alloc (.cells a.toArray t0)).alloc (.cells b.toArray t1)).heap.size = W.heap.size + 2 by simp] at this
  · have := Blk.new (((W.alloc (.cells a.toArray t0)).alloc (.cells b.toArray t1)).alloc (.cells c.toArray t2)) t3 d
    rwa [show (((W.alloc (.cells a.toArray t0)).alloc (.cells b.toArray t1)).alloc (.cells c.toArray t2)).heap.size = W.heap.size + 3 by simp] at this
  · exact bel_alloc (bel_alloc (bel_alloc (alloc_bel W _) (by simp) _) (by simp; omega) _) (by simp; omega) _
theorem bel_keep {W W2 W' : World} {S : Nat → Prop} {n : Nat} (h : Below n W W2) (k : Keep S W2 W') (hS : ∀ j, j < n → S j) : Below n W W' :=
  h.trans ⟨k.os, k.tape, k.output, k.size, fun j hj => k.block j (hS j hj)⟩

set_option maxHeartbeats 2000000 in
theorem reflectedAt_bad (base f : Int) (A : Option Addr) (c : Nat) (l : List G) (w : World) (hr : Rd w A (gs l)) (hl : l.length ≤ 1000) (he : firstE [(proE base l).2, freqE f] ≠ 0) :
    Calls Try.prog 16 #[.agg #[.int .i64 base, .slice A l.length c], .int .i64 f] w fun r w' =>
      r = .returned (.tuple #[.int .i64 0, .int .i64 0, .int .i64 (firstE [(proE base l).2, freqE f])]) ∧ Below w.heap.size w w' := by
  have HP := hide (fun W h => profileError_c base A c l W h hl)
  obtain ⟨e0, he0⟩ : ∃ e0, (proE base l).2 = e0 := ⟨_, rfl⟩
  obtain ⟨W0, hW0⟩ : ∃ W0, w.alloc (.cells #[.int .i64 base, .slice A l.length c] 24) = W0 := ⟨_, rfl⟩
  have hX0 : Blk W0 w.heap.size 24 [.int .i64 base, .slice A l.length c] := by rw [← hW0]; exact Blk.new w _ [_, _]
  have hB0 : Below w.heap.size w W0 := by rw [← hW0]; exact alloc_bel w _
  have HW := hide hW0
  clear hW0
  have HE0 := hide he0
  rw [he0] at HP
  clear he0
  have c0 := hX0.cell 0; have c1 := hX0.cell 1; simp only [List.getElem?_cons_zero, List.getElem?_cons_succ] at c0 c1
  have hr0 := hr.bel hB0
  have HE0' := HE0.out
  rw [HE0'] at he ⊢
  clear HE0'
  have e1 : (firstE [e0, freqE f] != 0) = true := by simpa using he
  clear he
  refine calls_marks 5 Try.func16 rfl ?_
  simp only [Try.ntmps16, List.size_toArray, List.length_cons, List.length_nil, Nat.reduceAdd, Nat.reduceSub, Array.replicate_succ, Array.replicate_zero, List.push_toArray, List.append_toArray, List.nil_append, List.cons_append]
  go_upto_region 1 with fail
  rw [HW.out]
  go_upto_region 2 with (first
    | (go_at_call 34; refine (HP.out _ hr0).mono ?_; rintro e w1 ⟨rfl, hb1⟩)
    | (go_at_call 38; refine (frequencyError_c _ _).mono ?_; rintro e_ w_ ⟨rfl, rfl⟩)
    | (go_at_call 33; refine (firstError_2 _ _ _).mono ?_; rintro e_ w_ ⟨rfl, rfl⟩))
  have hbw := bel_tr hB0 hB0.size hb1
  obtain ⟨W1, hW1⟩ : ∃ W1, w1.alloc (.cells #[.int .i64 e0, .int .i64 (freqE f)] 31) = W1 := ⟨_, rfl⟩
  have hb2 : Below w.heap.size w W1 := by rw [← hW1]; exact bel_alloc hbw hbw.size _
  rw [hW1]
  clear hW1
  obtain ⟨E, hE⟩ : ∃ E, firstE [e0, freqE f] = E := ⟨_, rfl⟩
  rw [hE] at e1 ⊢
  have HE := hide hE
  clear hE
  go_wp2
  exact ⟨.tuple #[.int .i64 0, .int .i64 0, .int .i64 E], by simp [results, Try.results16, go_sem]; try rfl, by rw [HE.out], hb2⟩

def reflV (base : Int) (l : List G) (f : Int) : Value := .tuple (if passN l f = l.length then #[.int .i64 0, .int .i64 0, .int .i64 21] else #[.int .i64 (hgt base l (passN l f)), .int .i64 (passN l f), .int .i64 0])
set_option maxHeartbeats 2000000 in
theorem reflectedAt_ok (base f : Int) (A : Option Addr) (c : Nat) (l : List G) (w : World) (hr : Rd w A (gs l)) (hP : Pro base l) (h1 : 1 ≤ f) (h2 : f ≤ 3000) :
    Calls Try.prog 16 #[.agg #[.int .i64 base, .slice A l.length c], .int .i64 f] w fun r w' =>
      r = .returned (reflV base l f) ∧ Below w.heap.size w w' := by
  have hl : l.length ≤ 1000 := by have := hP.n1; omega
  have HPE := hide hP.err
  have HP := hide (fun W h => profileError_c base A c l W h hl)
  obtain ⟨e0, he0⟩ : ∃ e0, (proE base l).2 = e0 := ⟨_, rfl⟩
  obtain ⟨W0, hW0⟩ : ∃ W0, w.alloc (.cells #[.int .i64 base, .slice A l.length c] 24) = W0 := ⟨_, rfl⟩
  have hX0 : Blk W0 w.heap.size 24 [.int .i64 base, .slice A l.length c] := by rw [← hW0]; exact Blk.new w _ [_, _]
  have hB0 : Below w.heap.size w W0 := by rw [← hW0]; exact alloc_bel w _
  have HW := hide hW0
  clear hW0
  have HE0 := hide he0
  rw [he0] at HP
  clear he0
  have c0 := hX0.cell 0; have c1 := hX0.cell 1; simp only [List.getElem?_cons_zero, List.getElem?_cons_succ] at c0 c1
  have hr0 := hr.bel hB0
  have hf0 : freqE f = 0 := freqE_zero.2 ⟨h1, h2⟩
  have he0 : e0 = 0 := by rw [← HE0.out, HPE.out]
  have e1 : (firstE [e0, freqE f] != 0) = false := by rw [he0, hf0]; rfl
  clear hf0 he0
  refine calls_marks 5 Try.func16 rfl ?_
  simp only [Try.ntmps16, List.size_toArray, List.length_cons, List.length_nil, Nat.reduceAdd, Nat.reduceSub, Array.replicate_succ, Array.replicate_zero, List.push_toArray, List.append_toArray, List.nil_append, List.cons_append]
  go_upto_region 1 with fail
  rw [HW.out]
  go_upto_region 2 with (first
    | (go_at_call 34; refine (HP.out _ hr0).mono ?_; rintro e w1 ⟨rfl, hb1⟩)
    | (go_at_call 38; refine (frequencyError_c _ _).mono ?_; rintro e_ w_ ⟨rfl, rfl⟩)
    | (go_at_call 33; refine (firstError_2 _ _ _).mono ?_; rintro e_ w_ ⟨rfl, rfl⟩))
  have hbw := bel_tr hB0 hB0.size hb1
  obtain ⟨W1, hW1⟩ : ∃ W1, w1.alloc (.cells #[.int .i64 e0, .int .i64 (freqE f)] 31) = W1 := ⟨_, rfl⟩
  have hb2 : Below w.heap.size w W1 := by rw [← hW1]; exact bel_alloc hbw hbw.size _
  have hX1 : Blk W1 w.heap.size 24 [.int .i64 base, .slice A l.length c] := by rw [← hW1]; exact (hX0.bel hb1).bel (alloc_bel _ _)
  rw [hW1]
  clear hW1 hX0 hB0 hb1 hbw c0 c1
  generalize firstE [e0, freqE f] = E at e1 ⊢
  have c0 := hX1.cell 0; have c1 := hX1.cell 1; simp only [List.getElem?_cons_zero, List.getElem?_cons_succ] at c0 c1
  have hz := hX1.lt
  go_wp2_with (first | (go_at_call 43; refine (passed_c _ _ _ _ _ _).mono ?_; rintro e w2 ⟨rfl, rfl⟩))
  have hs := hP.slabs
  have hn1 := hs.n1
  have hrq := hr.bel hb2
  have hlow := hr.low
  obtain ⟨q, hq⟩ : ∃ q, W1.heap.size = q := ⟨_, rfl⟩
  obtain ⟨W2, hW2⟩ : ∃ W2, (((W1.alloc (.cells #[.int .i64 base] 3)).alloc (.cells #[.int .i64 0] 3)).alloc (.cells #[.int .i64 base, .slice A l.length c] 24)).alloc (.cells #[.int .i64 f] 3) = W2 := ⟨_, rfl⟩
  rw [hW2]
  obtain ⟨hsz, hHt, hCt, hSky, hFr, hb4⟩ := new4 W1 W2 3 3 24 3 [.int .i64 base] [.int .i64 0] [.int .i64 base, .slice A l.length c] [.int .i64 f] hW2
  have hX2 := hX1.bel hb4
  have hr2 := hrq.bel hb4
  have hbw2 := bel_tr hb2 hb2.size hb4
  rw [hq] at hsz hHt hCt hSky hFr hz hb4
  rw [hq]
  have hwz := hb2.size
  clear hW2 c0 c1 hX1 hr hrq HW hr0 HP HPE
  obtain ⟨S, hS⟩ : ∃ S : Nat → Prop, ∀ j, S j ↔ j < q + 4 ∧ j ≠ q ∧ j ≠ q + 1 := ⟨fun j => j < q + 4 ∧ j ≠ q ∧ j ≠ q + 1, fun _ => Iff.rfl⟩
  have hm := passN_le l f
  have HB := hide (fun k hk => hgt_bd (k := k) hs hk)
  have HAT := hide (fun k hk => hs.at (k := k) hk)
  refine wpIn_wide.1 (range_law2 (n := 5) (α := Nat) rfl Try.call59 (passed_iter 4 (q + 2) (q + 3) (by omega) base f A c l hl h1 h2 S ((hS _).2 ⟨by omega, by omega, by omega⟩) ((hS _).2 ⟨by omega, by omega, by omega⟩) (fun hx b off e => (hS _).2 (by have := hlow hx b off e; omega)) W2 hSky hFr hr2)
    (fun j hj => by have := (hS j).1 hj; omega) (fun x args W h => by cases h; rfl)
    (fun pre W => Blk W q 3 [.int .i64 (hgt base l pre.length)] ∧ Blk W (q + 1) 3 [.int .i64 pre.length] ∧ Keep S W2 W)
    (fun pre W W' ⟨h1, h2, h3⟩ hb => ⟨h1.bel hb, h2.bel hb, h3.trans (Keep.of_below hb fun j hj => by have h4 := h3.size; have := (hS j).1 hj; omega)⟩)
    (fun pre W l' o o' ⟨h1, h2, h3⟩ hB hl' ho => ⟨(World.putObj_heap_other (by omega)).trans h1, (World.putObj_heap_other (by omega)).trans h2, h3.trans (Keep.putObj _ _ _ fun hj => by have := (hS l').1 hj; omega)⟩)
    ⟨hHt, hCt, Keep.refl _ _⟩
    (fun k a₁ W => ∃ bb : Nat, a₁ = { tmps := #[.agg #[.int .i64 base, .slice A l.length c], .int .i64 f, .pointer (some ⟨w.heap.size, 0, none⟩), undef, .int .i64 0, .int .i64 0, .int .i64 0, .int .i64 E, .pointer (some ⟨q, 0, none⟩), .pointer (some ⟨q + 1, 0, none⟩), .pointer (some ⟨bb, 0, none⟩), .agg #[.int .i64 base, .slice A l.length c], .int .i64 e0, .int .i64 f, .int .i64 (freqE f), .slice (some ⟨w1.heap.size, 0, none⟩) 2 2, .int .i64 E, .int .i64 E, .bool false, undef, .pointer (some ⟨w.heap.size, 0, none⟩), .int .i64 base, .agg #[.int .i64 base, .slice A l.length c], .int .i64 f, .func (.func 59) #[] #[.pointer (some ⟨q + 1 + 1, 0, none⟩), .pointer (some ⟨q + 1 + 1 + 1, 0, none⟩)], .agg #[.int .i64 (l.getD k G0).1, .int .i64 (l.getD k G0).2], undef, undef, undef, undef, undef, undef, undef, undef, undef, undef, undef, undef, undef], defers := [] } ∧ q + 4 ≤ bb ∧ Blk W bb 47 [.int .i64 (l.getD k G0).1, .int .i64 (l.getD k G0).2])
    ?hZ ?assign ?body ?done)
  case hZ =>
    rintro k a W l' o o' ⟨bb, h3, h4, h5⟩ hl' ho hc
    exact ⟨bb, h3, h4, (World.putObj_heap_other (fun e => by subst e; rw [show W.heap[bb]? = _ from h5] at ho; cases ho; cases hc)).trans h5⟩
  case assign =>
    rintro l' k args W K h hge hK
    cases h
    gi_wp2
    exact hK _ _ (alloc_bel _ _) ⟨W.heap.size, rfl, by omega, Blk.new W _ [_, _]⟩
  case body =>
    rintro l' pre k rest a₁ W' hxs ⟨hHm, hCm, hkp⟩ ⟨bb, rfl, hbb, hB4⟩ hge
    obtain ⟨hkl, hkm⟩ := range_at hxs
    rw [← hkl] at hHm hCm
    have HKL := hide hkl
    clear hkl hxs
    have hbd := HB.out k (by omega)
    have ha := HAT.out k (by omega)
    have HD : Hid (hgt base l (k + 1) = hgt base l k + (l.getD k G0).2) := rfl
    have hkn : k ≤ 100 := by omega
    generalize hgt base l k = h at hHm hbd HD
    generalize (l.getD k G0).1 = sq at hB4 ha ⊢
    generalize (l.getD k G0).2 = t at hB4 ha HD ⊢
    have x0 := hB4.cell 0
    have x1 := hB4.cell 1
    have q0 := hHm.cell 0
    have q1 := hCm.cell 0
    have q4 := hHm.frozen 0
    have q5 := hCm.frozen 0
    simp only [List.getElem?_cons_zero, List.getElem?_cons_succ] at x0 x1 q0 q1
    have hb0 := hP.b0
    have hb1 := hP.b1
    gi_wp2
    have hnS : ¬ S q := fun h => ((hS _).1 h).2.1 rfl
    have hnS1 : ¬ S (q + 1) := fun h => ((hS _).1 h).2.2 rfl
    have hE1 := ((hHm.set_ 0 (.int .i64 (h + t))).far (p := ⟨q + 1, 0, none⟩) (by show q ≠ q + 1; omega) (.int .i64 ((k : Int) + 1)))
    have hE2 := ((hCm.far (p := ⟨q, 0, none⟩) (by show q + 1 ≠ q; omega) (.int .i64 (h + t))).set_ 0 (.int .i64 ((k : Int) + 1)))
    have hk2 : Keep S W' ((W'.setCell ⟨q, 0, none⟩ (.int .i64 (h + t))).setCell ⟨q + 1, 0, none⟩ (.int .i64 ((k : Int) + 1))) := (Keep.setCell _ _ _ hnS).trans (Keep.setCell _ _ _ hnS1)
    refine ⟨(KeepsOthers.setCell _ _ _).trans (KeepsOthers.setCell _ _ _), hk2, ?_, ?_, hkp.trans hk2⟩
    · rw [List.length_append, List.length_singleton, ← HKL.out, HD.out]
      exact hE1
    · rw [List.length_append, List.length_singleton, ← HKL.out]
      exact hE2
  case done =>
    rintro D W' hD ⟨hHm, hCm, hkp⟩ hK
    rw [List.length_range] at hHm hCm
    have hX' : Blk W' w.heap.size 24 [.int .i64 base, .slice A l.length c] := (hkp.block _ ((hS _).2 ⟨by omega, by omega, by omega⟩)).trans hX2
    have x0 := hHm.cell 0
    have x1 := hCm.cell 0
    have y0 := hX'.cell 0
    have y1 := hX'.cell 1
    simp only [List.getElem?_cons_zero, List.getElem?_cons_succ] at x0 x1 y0 y1
    have hz1 := hHm.lt
    obtain ⟨h, hh⟩ : ∃ h, hgt base l (passN l f) = h := ⟨_, rfl⟩
    obtain ⟨m, hmm⟩ : ∃ m, passN l f = m := ⟨_, rfl⟩
    have hbF : Below w.heap.size w (W'.putObj D (.deferred none)) := by
      have := bel_keep (n := w.heap.size) hbw2 hkp (fun j hj => (hS j).2 ⟨by omega, by omega, by omega⟩)
      exact ⟨this.os, this.tape, this.output, by simpa using this.size, fun k hk => (World.putObj_heap_other (by omega)).trans (this.block k hk)⟩
    rw [hh] at x0
    rw [hmm] at x1 hm
    have H1 := hide hh
    have H2 := hide hmm
    clear hh hmm hHm hCm
    by_cases hf : m = l.length
    · have e2 : ((m : Int) == (l.length : Int)) = true := by simp; omega
      have HF := hide hf
      clear hf
      go_wp2
      refine ⟨by simp, .inl ⟨_, _, rfl, run_takeDeferred hK, ?_⟩⟩
      exact ⟨.tuple #[.int .i64 0, .int .i64 0, .int .i64 21], by simp [results, Try.results16, go_sem]; try rfl, by unfold reflV; rw [if_pos (by rw [H2.out]; exact HF.out)], hbF⟩
    · have e2 : ((m : Int) == (l.length : Int)) = false := by simp; omega
      have HF := hide hf
      clear hf
      go_wp2
      go_quiet (fail)
      go_wp2
      refine ⟨by simp, .inl ⟨_, _, rfl, run_takeDeferred (show (W'.drewN nq).heap[D]? = _ from hK), ?_⟩⟩
      exact ⟨.tuple #[.int .i64 h, .int .i64 m, .int .i64 0], by simp [results, Try.results16, go_sem]; try rfl, by unfold reflV; rw [if_neg (by rw [H2.out]; exact HF.out), H1.out, H2.out], below_drewN hbF _⟩
end Go.Proofs.Ytdeehodekilaiaa
