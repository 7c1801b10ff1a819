/- Contracts: the reference's check of a net. -/
import Derived.Test.YtmdmkmfemhkfgaaE28
set_option linter.unusedSimpArgs false
set_option linter.unusedVariables false
set_option linter.unusedSimpArgs false
set_option linter.unusedVariables false
namespace Go.Proofs.Ytmdmkmfemhkfgaa
open Go.RowKit
set_option maxRecDepth 100000

theorem mem_take_iff (l : List G) (k : Nat) (p : G) : p ∈ l.take k ↔ ∃ j, ∃ h : j < l.length, j < k ∧ l[j] = p := by
  constructor
  · intro h
    obtain ⟨j, hj, e⟩ := List.getElem_of_mem h
    rw [List.length_take] at hj
    refine ⟨j, by omega, by omega, ?_⟩
    rw [← e, List.getElem_take]
  · rintro ⟨j, h, hk, e⟩
    rw [← e]
    have h1 : j < (l.take k).length := by rw [List.length_take]; omega
    have h2 : (l.take k)[j] = l[j] := List.getElem_take
    rw [← h2]
    exact List.getElem_mem h1

set_option maxHeartbeats 1000000 in
theorem refCheckNet_c (n : Int) (A : Option Addr) (c : Nat) (l : List G) (w : World) (hr : Rd w A (gs l)) (hl : l.length ≤ 1000) :
    Calls Try.prog 41 #[.agg #[.int .i64 n, .slice A l.length c]] w fun r w' => r = .returned (.tuple #[.int .i64 (netE n l).1, .int .i64 (netE n l).2]) ∧ Below w.heap.size w w' := by
  have hY0 := Blk.new w 71 [.int .i64 n, .slice A l.length c]
  have hB0 := alloc_bel w (.cells #[.int .i64 n, .slice A l.length c] 71)
  have hr0 := hr.alloc (.cells #[.int .i64 n, .slice A l.length c] 71)
  obtain ⟨W, hW⟩ : ∃ W, w.alloc (.cells #[.int .i64 n, .slice A l.length c] 71) = W := ⟨_, rfl⟩
  have HW := hide hW
  rw [hW] at hY0 hB0 hr0
  clear hW hr
  have HN := hide (fun W => within_c n 1 8 W)
  have HI := hide (fun x W => within_c x 0 (n - 1) W)
  have hYc := hY0
  have y0 := hYc.cell 0; have y1 := hYc.cell 1; simp only [List.getElem?_cons_zero, List.getElem?_cons_succ] at y0 y1
  clear hYc
  cases hz1 : outB n 1 8
  · rw [hz1] at HN
    have hnn := outB_false.1 hz1
    by_cases hml : (28 : Int) < l.length
    · have HR : Hid (netE n l = (0, 8)) := by
        show _ = _
        have h1 : netHead n l.length = 8 := by
          unfold netHead
          rw [hz1, decide_eq_true hml]
          rfl
        unfold netE
        rw [if_neg (by rw [h1]; decide), h1]
      go_enter Try.func41, Try.ntmps41
      go_upto_region 1 with fail
      rw [HW.out]
      go_wp2_with (first | (go_at_call 23; refine (HN.out _).mono ?_; rintro e_ w_ ⟨rfl, rfl⟩))
      go_ret2
      exact ⟨by rw [HR.out]; rfl, hB0⟩
    · have HR : Hid (netE n l = firstBadFrom (pairE n l) 0 l) := by
        show _ = _
        have h1 : netHead n l.length = 0 := by
          unfold netHead
          rw [hz1, decide_eq_false hml]
          rfl
        unfold netE
        rw [if_pos h1]
      clear hz1
      go_enter Try.func41, Try.ntmps41
      go_upto_region 1 with fail
      rw [HW.out]
      go_wp2_with (first | (go_at_call 23; refine (HN.out _).mono ?_; rintro e_ w_ ⟨rfl, rfl⟩))
      clear y0 y1 HN
      go_loopw [4] (fun i wr => ∃ k : Nat, k ≤ l.length ∧ i = .int .i64 k ∧ Below W.heap.size W wr ∧ Hid (∀ j (h : j < l.length), j < k → pairE n l j l[j] = 0)) (fun i _ => l.length - (intOf i).toNat)
      case atStart => exact ⟨0, Nat.zero_le _, rfl, Below.refl _ _, fun _ _ h => by omega⟩
      case round =>
        obtain ⟨k, hk, rfl, hb, h0⟩ := hrel
        have hYr := hY0.bel hb
        have hBr := bel_tr hB0 hB0.size hb
        have hsr := hb.size
        have hzr := hYr.lt
        have c0 := hYr.cell 0; have c1 := hYr.cell 1; simp only [List.getElem?_cons_zero, List.getElem?_cons_succ] at c0 c1
        by_cases hlt : k < l.length
        · obtain ⟨g, off, rfl, hblt, x0, x1⟩ := (hr0.bel hb).g_at hlt
          have HK : Hid (l[k]'hlt = l[k]'hlt) := hide rfl
          generalize hgk : l[k]'hlt = gk at x0 x1 HK
          obtain ⟨a, b⟩ := gk
          dsimp only at x0 x1
          have HG := hide hgk
          have HP : Hid (pairE n l k (a, b) = firstE [errIf (outB a 0 (n - 1) || outB b 0 (n - 1)) 6, errIf (decide (b ≤ a)) 9, errIf (decide ((a, b) ∈ l.take k)) 23]) := rfl
          have HF : Hid (pairE n l k (a, b) ≠ 0 → netE n l = ((k : Int), pairE n l k (a, b))) := by
            intro hne
            have := firstBadFrom_some (pairE n l) l 0 k hlt (fun i hi => by simpa using h0.out i (by omega) hi) (by simpa [HG.out] using hne)
            rw [HR.out]
            simpa [HG.out] using this
          clear hgk
          go_upto_region 9 with fail
          obtain ⟨p, hp⟩ : ∃ p, wr.heap.size = p := ⟨_, rfl⟩
          obtain ⟨w2, hw2⟩ : ∃ W, wr.alloc (.cells #[.int .i64 a, .int .i64 b] 42) = W := ⟨_, rfl⟩
          have hP2 : Blk w2 p 42 [.int .i64 a, .int .i64 b] := by rw [← hw2, ← hp]; exact Blk.new wr _ [_, _]
          have hb2 : Below W.heap.size W w2 := by rw [← hw2]; exact bel_alloc hb hsr _
          have hY2 : Blk w2 w.heap.size 71 [.int .i64 n, .slice (some ⟨g, off, none⟩) l.length c] := hY0.bel hb2
          have hB2 := bel_tr hB0 hB0.size hb2
          rw [hw2]
          try rw [hp]
          have hzp := hP2.lt
          have hz2 := hY2.lt
          clear hw2 c0 c1 x0 x1 hYr hzr
          have c0 := hY2.cell 0; have c1 := hY2.cell 1; simp only [List.getElem?_cons_zero, List.getElem?_cons_succ] at c0 c1
          have q0 := hP2.cell 0; have q1 := hP2.cell 1; simp only [List.getElem?_cons_zero, List.getElem?_cons_succ] at q0 q1
          cases hoa : outB a 0 (n - 1)
          · cases hob : outB b 0 (n - 1)
            · by_cases hba : b ≤ a
              · have HV : Hid (netE n l = ((k : Int), 9)) := by
                  show _ = _
                  have h1 : pairE n l k (a, b) = 9 := by rw [HP.out, hoa, hob, decide_eq_true hba]; rfl
                  rw [HF.out (by rw [h1]; decide), h1]
                go_wp2_with (first | (go_at_call 23; refine (HI.out _ _).mono ?_; rintro e_ w_ ⟨rfl, rfl⟩; first | rw [hoa] | rw [hob]))
                go_ret2
                exact ⟨by rw [HV.out]; rfl, hB2⟩
              · have HP2 : Hid (pairE n l k (a, b) = errIf (decide ((a, b) ∈ l.take k)) 23) := by
                  show _ = _
                  rw [HP.out, hoa, hob, decide_eq_false hba]
                  generalize decide ((a, b) ∈ l.take k) = dd
                  cases dd <;> rfl
                clear HP
                go_wp2_with (first | (go_at_call 23; refine (HI.out _ _).mono ?_; rintro e_ w_ ⟨rfl, rfl⟩; first | rw [hoa] | rw [hob]))
                have hr2 := hr0.bel hb2
                go_loopw [6] (fun x wi => ∃ m : Nat, m ≤ k ∧ x = .int .i64 m ∧ Below w2.heap.size w2 wi ∧ Hid (∀ j (h : j < l.length), j < m → l[j] ≠ (a, b))) (fun x _ => k - (intOf x).toNat)
                case atStart => exact ⟨0, Nat.zero_le _, rfl, Below.refl _ _, fun _ _ h => by omega⟩
                case round =>
                  obtain ⟨m, hm, rfl, hbi, h1⟩ := hrel
                  have hYi := hY2.bel hbi
                  have hPi := hP2.bel hbi
                  have hBi := bel_tr hB2 hB2.size hbi
                  have hs2 := hb2.size
                  have e0 := hYi.cell 0; have e1 := hYi.cell 1; simp only [List.getElem?_cons_zero, List.getElem?_cons_succ] at e0 e1
                  have f0 := hPi.cell 0; have f1 := hPi.cell 1; simp only [List.getElem?_cons_zero, List.getElem?_cons_succ] at f0 f1
                  by_cases hlm : m < k
                  · obtain ⟨_, z0, z1⟩ := (hr2.bel hbi).g_in (show m < l.length by omega)
                    have i0 : (m : Int) < (l.length : Int) := by omega
                    by_cases hz : l[m]'(by omega) = (a, b)
                    · have HV : Hid (netE n l = ((k : Int), 23)) := by
                        show _ = _
                        have h2 : pairE n l k (a, b) = 23 := by
                          rw [HP2.out, decide_eq_true ((mem_take_iff l k (a, b)).2 ⟨m, by omega, hlm, hz⟩)]
                          rfl
                        rw [HF.out (by rw [h2]; decide), h2]
                      rw [hz] at z0 z1
                      have hq : ∀ w, (binOp .eql 42 (.agg #[.int .i64 a, .int .i64 b]) (.agg #[.int .i64 a, .int .i64 b])).run Try.prog w = .ok (.bool true) w := fun w => by rw [eql_pair, decide_eq_true rfl]
                      clear hz
                      go_wp2
                      go_quiet (fail)
                      go_wp2
                      go_ret2
                      exact ⟨by rw [HV.out]; rfl, below_drewN hBi _⟩
                    · have H1 : Hid (∀ j (h : j < l.length), j < m + 1 → l[j] ≠ (a, b)) := fun j h hj => by
                        by_cases e : j = m
                        · subst e; exact hz
                        · exact h1.out j h (by omega)
                      generalize l[m]'(by omega) = g' at z0 z1 hz
                      obtain ⟨ga, gb⟩ := g'
                      dsimp only at z0 z1
                      have hq : ∀ w, (binOp .eql 42 (.agg #[.int .i64 ga, .int .i64 gb]) (.agg #[.int .i64 a, .int .i64 b])).run Try.prog w = .ok (.bool false) w := fun w => by rw [eql_pair, decide_eq_false (fun e => hz e.symm)]
                      clear hz
                      go_wp2
                      go_quiet (fail)
                      go_wp2
                      exact ⟨⟨m + 1, by omega, by go_num, below_drewN hbi _, H1⟩, by simp [intOf]; omega⟩
                  · obtain rfl : m = k := by omega
                    have H1 : Hid (∀ j (h : j < l.length), j < m + 1 → pairE n l j l[j] = 0) := fun j h hj => by
                      by_cases e : j = m
                      · subst e
                        rw [HG.out, HP2.out, decide_eq_false (fun hx => by
                          obtain ⟨i, h2, h3, h4⟩ := (mem_take_iff l j (a, b)).1 hx
                          exact h1.out i h2 h3 h4)]
                        rfl
                      · exact h0.out j h (by omega)
                    go_wp2
                    exact ⟨⟨m + 1, by omega, by go_num, bel_tr hb2 hb2.size hbi, H1⟩, by simp [intOf]; omega⟩
            · have HV : Hid (netE n l = ((k : Int), 6)) := by
                show _ = _
                have h1 : pairE n l k (a, b) = 6 := by rw [HP.out, hoa, hob]; rfl
                rw [HF.out (by rw [h1]; decide), h1]
              go_wp2_with (first | (go_at_call 23; refine (HI.out _ _).mono ?_; rintro e_ w_ ⟨rfl, rfl⟩; first | rw [hoa] | rw [hob]))
              go_ret2
              exact ⟨by rw [HV.out]; rfl, hB2⟩
          · have HV : Hid (netE n l = ((k : Int), 6)) := by
              show _ = _
              have h1 : pairE n l k (a, b) = 6 := by rw [HP.out, hoa]; rfl
              rw [HF.out (by rw [h1]; decide), h1]
            go_wp2_with (first
              | (go_at_call 23; refine (HI.out _ _).mono ?_; rintro e_ w_ ⟨rfl, rfl⟩; rw [hoa]))
            go_ret2
            exact ⟨by rw [HV.out]; rfl, hB2⟩
        · obtain rfl : k = l.length := by omega
          have HV : Hid (netE n l = (0, 0)) := by
            show _ = _
            rw [HR.out]
            exact firstBadFrom_none _ l 0 fun i hi => by simpa using h0.out i hi (by omega)
          go_wp2
          go_ret2
          exact ⟨by rw [HV.out]; rfl, hBr⟩
  · rw [hz1] at HN
    have HR : Hid (netE n l = (0, 2)) := by
      show _ = _
      have h1 : netHead n l.length = 2 := by
        unfold netHead
        rw [hz1]
        rfl
      unfold netE
      rw [if_neg (by rw [h1]; decide), h1]
    go_enter Try.func41, Try.ntmps41
    go_upto_region 1 with fail
    rw [HW.out]
    go_wp2_with (first | (go_at_call 23; refine (HN.out _).mono ?_; rintro e_ w_ ⟨rfl, rfl⟩))
    go_ret2
    exact ⟨by rw [HR.out]; rfl, hB0⟩
end Go.Proofs.Ytmdmkmfemhkfgaa
