/- Contracts: the reference's plan with the fewest slots. -/
import Derived.Test.YtmdmkmfemhkfgaaE30
set_option linter.unusedSimpArgs false
set_option linter.unusedVariables false
set_option linter.unusedSimpArgs false
set_option linter.unusedVariables false
namespace Go.Proofs.Ytmdmkmfemhkfgaa
open Go.RowKit
set_option maxRecDepth 100000

theorem planned_c (l : List G) (A : Option Addr) (cp n count : Nat) (hn8 : n ≤ 8) (hc8 : count ≤ 1000) (hl : l.length ≤ 1000) (hpairs : ∀ k (h : k < l.length), 0 ≤ l[k].1 ∧ l[k].1 < l[k].2) :
    ∀ (r : Nat) (slots : List Int) (A' : Option Addr) (c' : Nat) (w : World), slots.length + r = n → Rd w A' (ints slots) → Rd w A (gs l) →
      Calls Try.prog 80 #[.agg #[.int .i64 (n : Int), .slice A l.length cp], .slice A' slots.length c', .int .i64 (count : Int)] w (PlannedPost n w (planF l count r slots))
  | 0, slots, A', c', w, hn, hs, hr => planned_zero l A cp n count slots A' c' w hn hn8 hs hr
  | r + 1, slots, A', c', w, hn, hs, hr => planned_succ l A cp n count r hn8 hc8 hl hpairs (fun slots A' c' w h1 h2 h3 => planned_c l A cp n count hn8 hc8 hl hpairs r slots A' c' w h1 h2 h3) slots A' c' w hn hs hr

/-- What the reference's PlanFor returns. -/
def RefPlanAns (n : Nat) (l : List G) (k : Nat) (v : Value) (w : World) : Prop :=
  1 ≤ k ∧ k ≤ n ∧ (∀ j, 1 ≤ j → j < k → planF l j n [] = none) ∧
  ((k = n ∧ planF l k n [] = none ∧ v = .slice none 0 0) ∨ (∃ out A c, planF l k n [] = some out ∧ v = .slice A n c ∧ Rd w A (ints out) ∧ out.length = n))

set_option maxHeartbeats 1000000 in
theorem refPlanFor_c (n : Nat) (A : Option Addr) (c : Nat) (l : List G) (w : World) (hr : Rd w A (gs l)) (hl : l.length ≤ 1000) (hn1 : 1 ≤ n) (hn8 : n ≤ 8) (hpairs : ∀ k (h : k < l.length), 0 ≤ l[k].1 ∧ l[k].1 < l[k].2) :
    Calls Try.prog 42 #[.agg #[.int .i64 (n : Int), .slice A l.length c]] w fun r w' => (∃ (k : Nat) (v : Value), r = .returned (.tuple #[v, .int .i64 (k : Int)]) ∧ RefPlanAns n l k v w') ∧ Below w.heap.size w w' := by
  obtain ⟨p, hp⟩ : ∃ p, w.heap.size = p := ⟨_, rfl⟩
  obtain ⟨W, hW⟩ : ∃ W, w.alloc (.cells #[.int .i64 (n : Int), .slice A l.length c] 71) = W := ⟨_, rfl⟩
  have hX : Blk W p 71 [.int .i64 (n : Int), .slice A l.length c] := by rw [← hW, ← hp]; exact Blk.new w _ [_, _]
  have hB : Below p w W := by rw [← hW, ← hp]; exact alloc_bel _ _
  have hrW : Rd W A (gs l) := hr.bel (by rw [hp]; exact hB)
  have hpW := hX.lt
  have HW := hide hW
  clear hW hr
  have HPL := hide (fun count (h8 : count ≤ 1000) (W' : World) (h : Rd W' A (gs l)) => planned_c l A c n count hn8 h8 hl hpairs n [] none 0 W' (by simp) (Rd.nil _ _) h)
  clear hpairs
  go_enter Try.func42, Try.ntmps42
  go_upto_region 1 with fail
  try rw [hp]
  rw [HW.out]
  go_wp2
  go_loopw [4] (fun x wr => ∃ k : Nat, 1 ≤ k ∧ k ≤ n ∧ x = .int .i64 k ∧ Below W.heap.size W wr ∧ Hid (∀ j, 1 ≤ j → j < k → planF l j n [] = none)) (fun x _ => n - (intOf x).toNat)
  case atStart => exact ⟨1, by omega, hn1, rfl, Below.refl _ _, fun j h1 h2 => by omega⟩
  case round =>
    obtain ⟨k, hk1, hk, rfl, hbr, h0⟩ := hrel
    have hXr := hX.bel hbr
    have hrr := hrW.bel hbr
    have hzr := hXr.lt
    have c0 := hXr.cell 0; have c1 := hXr.cell 1; simp only [List.getElem?_cons_zero, List.getElem?_cons_succ] at c0 c1
    by_cases hlt : k < n
    · have p2 : (k : Int) < (n : Int) := by omega
      have HK := hide (HPL.out k (by omega) wr hrr)
      simp only [List.length_nil] at HK
      generalize hres : planF l k n [] = rs at HK
      have HRS := hide hres
      clear hres
      cases rs with
      | none =>
        have HK2 : Hid (Calls Try.prog 80 #[.agg #[.int .i64 (n : Int), .slice A l.length c], .slice none 0 0, .int .i64 (k : Int)] wr fun e w' => e = .returned (.tuple #[.slice none 0 0, .bool false]) ∧ Below wr.heap.size wr w') := HK.out.mono fun e w' hx => ⟨hx.2.1 rfl, hx.2.2⟩
        clear HK
        go_wp2_with (first | (go_at_call 80; refine HK2.out.mono ?_; rintro e_ w5 ⟨rfl, hb5⟩))
        go_roundw
        case rel => exact ⟨k + 1, by omega, by omega, by go_num, bel_tr hbr hbr.size hb5, fun j h1 h2 => by
          by_cases e : j = k
          · subst e; exact HRS.out
          · exact h0.out j h1 (by omega)⟩
        case measure => simp [intOf]; omega
      | some out =>
        have HK2 : Hid (Calls Try.prog 80 #[.agg #[.int .i64 (n : Int), .slice A l.length c], .slice none 0 0, .int .i64 (k : Int)] wr fun e w' => (∃ A'' c'', e = .returned (.tuple #[.slice A'' n c'', .bool true]) ∧ Rd w' A'' (ints out) ∧ out.length = n) ∧ Below wr.heap.size wr w') := HK.out.mono fun e w' hx => ⟨hx.1 out rfl, hx.2.2⟩
        clear HK
        go_wp2_with (first | (go_at_call 80; refine HK2.out.mono ?_; rintro e_ w5 ⟨⟨A'', c'', rfl, hd, hlo⟩, hb5⟩))
        go_ret2
        exact ⟨⟨k, .slice A'' n c'', rfl, hk1, hk, h0.out, .inr ⟨out, A'', c'', HRS.out, rfl, hd, hlo⟩⟩, (by first | exact bel_tr (bel_tr hB (by omega) hbr) (by have := hbr.size; omega) hb5 | (rw [hp]; exact bel_tr (bel_tr hB (by omega) hbr) (by have := hbr.size; omega) hb5))⟩
    · obtain rfl : k = n := by omega
      have HK := hide (HPL.out k (by omega) wr hrr)
      simp only [List.length_nil] at HK
      generalize hres : planF l k k [] = rs at HK
      have HRS := hide hres
      clear hres
      cases rs with
      | none =>
        have HK2 : Hid (Calls Try.prog 80 #[.agg #[.int .i64 (k : Int), .slice A l.length c], .slice none 0 0, .int .i64 (k : Int)] wr fun e w' => e = .returned (.tuple #[.slice none 0 0, .bool false]) ∧ Below wr.heap.size wr w') := HK.out.mono fun e w' hx => ⟨hx.2.1 rfl, hx.2.2⟩
        clear HK
        go_upto_region 8 with (first | (go_at_call 80; refine HK2.out.mono ?_; rintro e_ w5 ⟨rfl, hb5⟩))
        have hX5 := hXr.bel hb5
        clear c0 c1
        have c0 := hX5.cell 0; have c1 := hX5.cell 1; simp only [List.getElem?_cons_zero, List.getElem?_cons_succ] at c0 c1
        go_quiet (fail)
        go_wp2
        go_ret2
        exact ⟨⟨k, .slice none 0 0, rfl, hk1, hk, h0.out, .inl ⟨rfl, HRS.out, rfl⟩⟩, (by first | exact below_drewN (bel_tr (bel_tr hB (by omega) hbr) (by have := hbr.size; omega) hb5) _ | (rw [hp]; exact below_drewN (bel_tr (bel_tr hB (by omega) hbr) (by have := hbr.size; omega) hb5) _))⟩
      | some out =>
        have HK2 : Hid (Calls Try.prog 80 #[.agg #[.int .i64 (k : Int), .slice A l.length c], .slice none 0 0, .int .i64 (k : Int)] wr fun e w' => (∃ A'' c'', e = .returned (.tuple #[.slice A'' k c'', .bool true]) ∧ Rd w' A'' (ints out) ∧ out.length = k) ∧ Below wr.heap.size wr w') := HK.out.mono fun e w' hx => ⟨hx.1 out rfl, hx.2.2⟩
        clear HK
        go_upto_region 8 with (first | (go_at_call 80; refine HK2.out.mono ?_; rintro e_ w5 ⟨⟨A'', c'', rfl, hd, hlo⟩, hb5⟩))
        have hX5 := hXr.bel hb5
        clear c0 c1
        have c0 := hX5.cell 0; have c1 := hX5.cell 1; simp only [List.getElem?_cons_zero, List.getElem?_cons_succ] at c0 c1
        go_quiet (fail)
        go_wp2
        go_ret2
        exact ⟨⟨k, .slice A'' k c'', rfl, hk1, hk, h0.out, .inr ⟨out, A'', c'', HRS.out, rfl, hd.drewN _, hlo⟩⟩, (by first | exact below_drewN (bel_tr (bel_tr hB (by omega) hbr) (by have := hbr.size; omega) hb5) _ | (rw [hp]; exact below_drewN (bel_tr (bel_tr hB (by omega) hbr) (by have := hbr.size; omega) hb5) _))⟩
end Go.Proofs.Ytmdmkmfemhkfgaa
