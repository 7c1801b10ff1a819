/- Contracts: the reference of plans: whether two stations disturb each other, an order of lists, the check of a plan. -/
import Derived.Test.YtmdmkmfemhkfgaaE27
set_option linter.unusedSimpArgs false
set_option linter.unusedVariables false
set_option linter.unusedSimpArgs false
set_option linter.unusedVariables false
namespace Go.Proofs.Ytmdmkmfemhkfgaa
open Go.RowKit
set_option maxRecDepth 100000

theorem disturb_c (n a b : Int) (A : Option Addr) (c : Nat) (l : List G) (w : World) (hr : Rd w A (gs l)) (hl : l.length ≤ 1000) (hab : a < b) :
    Calls Try.prog 81 #[.agg #[.int .i64 n, .slice A l.length c], .int .i64 a, .int .i64 b] w fun r w' => r = .returned (.bool (decide ((a, b) ∈ l))) ∧ Below w.heap.size w w' := by
  have hY0 := Blk.new w 71 [.int .i64 n, .slice A l.length c]
  have hB0 := alloc_bel w (.cells #[.int .i64 n, .slice A l.length c] 71)
  have hr0 := hr.alloc (.cells #[.int .i64 n, .slice A l.length c] 71)
  obtain ⟨W, hW⟩ : ∃ W, w.alloc (.cells #[.int .i64 n, .slice A l.length c] 71) = W := ⟨_, rfl⟩
  have HW := hide hW
  rw [hW] at hY0 hB0 hr0
  clear hW
  have hnb : ¬ b < a := by omega
  go_enter Try.func81, Try.ntmps81
  go_wp2
  rw [HW.out]
  go_loopw [7] (fun i wr => ∃ k : Nat, k ≤ l.length ∧ i = .int .i64 k ∧ Below W.heap.size W wr ∧ Hid (∀ j (h : j < l.length), j < k → l[j] ≠ (a, b))) (fun i _ => l.length - (intOf i).toNat)
  case atStart => exact ⟨0, Nat.zero_le _, rfl, Below.refl _ _, fun _ _ h => by omega⟩
  case round =>
    obtain ⟨k, hk, rfl, hb, h0⟩ := hrel
    have hYr := hY0.bel hb
    have c0 := hYr.cell 0; have c1 := hYr.cell 1; simp only [List.getElem?_cons_zero, List.getElem?_cons_succ] at c0 c1
    have hBr := bel_tr hB0 hB0.size hb
    by_cases hlt : k < l.length
    · obtain ⟨g, off, rfl, hblt, x0, x1⟩ := (hr0.bel hb).g_at hlt
      by_cases hz : l[k] = (a, b)
      · have HM : Hid ((a, b) ∈ l) := by show _ ∈ l; rw [← hz]; exact List.getElem_mem hlt
        rw [hz] at x0 x1
        have hq : ∀ w, (binOp .eql 42 (.agg #[.int .i64 a, .int .i64 b]) (.agg #[.int .i64 a, .int .i64 b])).run Try.prog w = .ok (.bool true) w := fun w => by rw [eql_pair, decide_eq_true rfl]
        clear hz
        go_wp2
        all_goals try go_quiet (fail)
        all_goals try go_wp2
        go_ret
        exact ⟨by rw [decide_eq_true HM.out]; rfl, by first | exact hBr | exact below_drewN hBr _⟩
      · have H1 : Hid (∀ j (h : j < l.length), j < k + 1 → l[j] ≠ (a, b)) := fun j h hj => by
          by_cases e : j = k
          · subst e; exact hz
          · exact h0.out j h (by omega)
        generalize l[k] = g' at x0 x1 hz
        obtain ⟨ga, gb⟩ := g'
        dsimp only at x0 x1
        have hq : ∀ w, (binOp .eql 42 (.agg #[.int .i64 ga, .int .i64 gb]) (.agg #[.int .i64 a, .int .i64 b])).run Try.prog w = .ok (.bool false) w := fun w => by rw [eql_pair, decide_eq_false (fun e => hz e.symm)]
        clear hz
        go_wp2
        all_goals try go_quiet (fail)
        all_goals try go_wp2
        go_roundw
        case rel => exact ⟨k + 1, by omega, by go_num, by first | exact hb | exact below_drewN hb _, H1⟩
        case measure => simp [intOf]; omega
    · obtain rfl : k = l.length := by omega
      have HM : Hid (¬ (a, b) ∈ l) := fun h => by
        obtain ⟨j, hj, e⟩ := List.getElem_of_mem h
        exact h0.out j hj hj e
      go_wp2
      go_ret
      exact ⟨by rw [decide_eq_false HM.out]; rfl, hBr⟩

/-- The reference's check of a plan, of a net without an error. -/
theorem refCheckPlan_c (n : Int) (A B : Option Addr) (c d : Nat) (l : List G) (slots : List Int) (w : World) (hr : Rd w A (gs l)) (hs : Rd w B (ints slots)) (hl : l.length ≤ 1000) (hm : slots.length ≤ 1000) (he : (netE n l).2 = 0) :
    Calls Try.prog 43 #[.agg #[.int .i64 n, .slice A l.length c], .slice B slots.length d] w fun r w' => r = .returned (.tuple #[.int .i64 (planE n l slots).1, .int .i64 (planE n l slots).2]) ∧ Below w.heap.size w w' := by
  have hN := netE_zero he
  have hY0 := Blk.new w 71 [.int .i64 n, .slice A l.length c]
  have hB0 := alloc_bel w (.cells #[.int .i64 n, .slice A l.length c] 71)
  have hr0 := hr.alloc (.cells #[.int .i64 n, .slice A l.length c] 71)
  have hs0 := hs.alloc (.cells #[.int .i64 n, .slice A l.length c] 71)
  obtain ⟨W, hW⟩ : ∃ W, w.alloc (.cells #[.int .i64 n, .slice A l.length c] 71) = W := ⟨_, rfl⟩
  have HW := hide hW
  rw [hW] at hY0 hB0 hr0 hs0
  clear hW hr hs
  have HI := hide (fun x W => within_c x 0 7 W)
  have hHead : planHead n l slots.length = errIf ((slots.length : Int) != n) 10 := by
    unfold planHead
    rw [he]
    simp only [firstE]
    rw [if_pos trivial]
    by_cases h : errIf ((slots.length : Int) != n) 10 = 0
    · rw [if_pos h, h]
    · rw [if_neg h]
  have hYc := hY0
  have y0 := hYc.cell 0; have y1 := hYc.cell 1; simp only [List.getElem?_cons_zero, List.getElem?_cons_succ] at y0 y1
  by_cases hmn : (slots.length : Int) = n
  · subst hmn
    have e0 : ((slots.length : Int) != (slots.length : Int)) = false := by simp
    rw [e0] at hHead
    have HR : Hid (planE (slots.length : Int) l slots = if (firstBadFrom (fun _ s => slotE s) 0 slots).2 = 0 then firstBadFrom (fun _ p => clashE slots p) 0 l else firstBadFrom (fun _ s => slotE s) 0 slots) := by show _ = _; unfold planE; rw [if_pos (by rw [hHead]; rfl)]
    clear hHead he
    go_enter Try.func43, Try.ntmps43
    go_wp2
    rw [HW.out]
    go_wp2
    go_loopw [6] (fun i wr => ∃ k : Nat, k ≤ slots.length ∧ i = .int .i64 k ∧ Below W.heap.size W wr ∧ Hid (∀ j (h : j < slots.length), j < k → slotE slots[j] = 0)) (fun i _ => slots.length - (intOf i).toNat)
    case atStart => exact ⟨0, Nat.zero_le _, rfl, Below.refl _ _, fun _ _ h => by omega⟩
    case round =>
      obtain ⟨k, hk, rfl, hb, h0⟩ := hrel
      have hYr := hY0.bel hb
      have hBr := bel_tr hB0 hB0.size hb
      have hrr := hr0.bel hb
      have hsr := hs0.bel hb
      by_cases hlt : k < slots.length
      · obtain ⟨g, off, rfl, hblt, x0⟩ := hsr.int_at hlt
        cases hz : outB slots[k] 0 7
        · have H1 : Hid (∀ j (h : j < slots.length), j < k + 1 → slotE slots[j] = 0) := fun j h hj => by
            by_cases e : j = k
            · subst e; unfold slotE; rw [hz]; rfl
            · exact h0.out j h (by omega)
          go_wp2_with (first | (go_at_call 23; refine (HI.out _ _).mono ?_; rintro e_ w_ ⟨rfl, rfl⟩; rw [hz]))
          go_roundw
          case rel => exact ⟨k + 1, by omega, by go_num, hb, H1⟩
          case measure => simp [intOf]; omega
        · have HF : Hid (planE (slots.length : Int) l slots = ((k : Int), 2)) := by
            show _ = _
            have h1 : firstBadFrom (fun _ s => slotE s) 0 slots = ((k : Int), slotE slots[k]) := by
              have := firstBadFrom_some (fun _ s => slotE s) slots 0 k hlt (fun i hi => by simpa using h0.out i (by omega) hi) (by simp [slotE, hz, errIf])
              simpa using this
            rw [HR.out, h1]
            simp [slotE, hz, errIf]
          go_wp2_with (first | (go_at_call 23; refine (HI.out _ _).mono ?_; rintro e_ w_ ⟨rfl, rfl⟩; rw [hz]))
          go_ret2
          exact ⟨by rw [HF.out]; rfl, hBr⟩
      · obtain rfl : k = slots.length := by omega
        have hgood : firstBadFrom (fun _ s => slotE s) 0 slots = (0, 0) := firstBadFrom_none _ slots 0 fun i hi => by simpa using h0.out i hi (by omega)
        have HR2 : Hid (planE (slots.length : Int) l slots = firstBadFrom (fun _ p => clashE slots p) 0 l) := by show _ = _; rw [HR.out, hgood, if_pos rfl]
        have hYz := hYr.lt
        clear hgood HR h0
        go_wp2
        go_loopw [7] (fun i wr => ∃ k : Nat, k ≤ l.length ∧ i = .int .i64 k ∧ Below W.heap.size W wr ∧ Hid (∀ j (h : j < l.length), j < k → clashE slots l[j] = 0)) (fun i _ => l.length - (intOf i).toNat)
        case atStart => exact ⟨0, Nat.zero_le _, rfl, hb, fun _ _ h => by omega⟩
        case round =>
          obtain ⟨k, hk, rfl, hbi, h0⟩ := hrel
          have hYi := hY0.bel hbi
          have c0 := hYi.cell 0; have c1 := hYi.cell 1; simp only [List.getElem?_cons_zero, List.getElem?_cons_succ] at c0 c1
          have hBi := bel_tr hB0 hB0.size hbi
          by_cases hlt : k < l.length
          · obtain ⟨g, off, rfl, hblt, x0, x1⟩ := (hr0.bel hbi).g_at hlt
            have hp := hN.pair k hlt
            have HK : Hid (l[k]'hlt = l[k]'hlt) := hide rfl
            generalize hgk : l[k]'hlt = gk at x0 x1 hp HK
            obtain ⟨a, b⟩ := gk
            dsimp only at x0 x1 hp
            obtain ⟨p0, p1, p2⟩ := hp
            obtain ⟨g2, off2, rfl, hg2, z0⟩ := (hs0.bel hbi).int_at (k := a.toNat) (by omega)
            obtain ⟨_, _, e', _, z1⟩ := (hs0.bel hbi).int_at (k := b.toNat) (by omega)
            injection e' with e'
            injection e' with eb eo
            subst eb eo
            have HC : Hid (clashE slots (a, b) = errIf (slots[a.toNat]'(by omega) == slots[b.toNat]'(by omega)) 13) := by
              show _ = _
              unfold clashE
              dsimp only
              rw [getI (by omega), getI (by omega)]
            have ha : ((a.toNat : Nat) : Int) = a := by omega
            have hb' : ((b.toNat : Nat) : Int) = b := by omega
            generalize slots[a.toNat]'(by omega) = x at z0 HC
            generalize slots[b.toNat]'(by omega) = y at z1 HC
            have q0 : a < (slots.length : Int) := by omega
            have q1 : b < (slots.length : Int) := by omega
            have q2 : 0 ≤ b := by omega
            have HG := hide hgk
            clear hgk
            cases hz : (x == y)
            · have H1 : Hid (∀ j (h : j < l.length), j < k + 1 → clashE slots l[j] = 0) := fun j h hj => by
                by_cases e : j = k
                · subst e; rw [HG.out, HC.out, hz]; rfl
                · exact h0.out j h (by omega)
              go_wp2
              go_quiet (fail)
              go_wp2
              exact ⟨⟨k + 1, by omega, by go_num, below_drewN hbi _, H1⟩, by simp [intOf]; omega⟩
            · have HF : Hid (planE (slots.length : Int) l slots = ((k : Int), 13)) := by
                show _ = _
                have h1 : firstBadFrom (fun _ p => clashE slots p) 0 l = ((k : Int), clashE slots l[k]) := by
                  have := firstBadFrom_some (fun _ p => clashE slots p) l 0 k hlt (fun i hi => by simpa using h0.out i (by omega) hi) (by simp [HG.out, HC.out, hz, errIf])
                  simpa using this
                rw [HR2.out, h1]
                simp [HG.out, HC.out, hz, errIf]
              go_wp2
              go_quiet (fail)
              go_wp2
              go_ret2
              exact ⟨by rw [HF.out]; rfl, below_drewN hBi _⟩
          · obtain rfl : k = l.length := by omega
            have HF : Hid (planE (slots.length : Int) l slots = (0, 0)) := by
              show _ = _
              rw [HR2.out]
              exact firstBadFrom_none _ l 0 fun i hi => by simpa using h0.out i hi (by omega)
            go_wp2
            go_ret2
            exact ⟨by rw [HF.out]; rfl, hBi⟩
  · have e0 : ((slots.length : Int) != n) = true := by simpa using hmn
    rw [e0] at hHead
    have HR : Hid (planE n l slots = (0, 10)) := by show _ = _; unfold planE; rw [if_neg (by rw [hHead]; decide), hHead]; rfl
    clear hHead he
    go_enter Try.func43, Try.ntmps43
    go_wp2
    rw [HW.out]
    go_wp2
    go_ret2
    exact ⟨by rw [HR.out]; rfl, hB0⟩
end Go.Proofs.Ytmdmkmfemhkfgaa
