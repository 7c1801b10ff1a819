/- Contracts: the errors of a lag, a budget and a rule (the program's and the reference's). -/
import Derived.Test.YthkmeaibppkhmaaDoorKp2
namespace Go.Proofs.YthkmeaibppkhmaaDoor
open Go.RowKit
set_option maxRecDepth 100000

def bgE (b : Int) : Int := errIf (outB b 0 2000000) 2
def ruE (b t : Int) : Int := firstE [bgE b, errIf (outB t 0 1000000000) 2]
def lagE (n : Nat) (lag : Int) : Int := errIf (outB lag 0 ((n : Int) - 1)) 6

theorem budgetError_c (b : Int) (w : World) : Calls Tryd.prog 122 #[.int .i64 b] w fun r w' => r = .returned (.int .i64 (bgE b)) ∧ w = w' := by
  go_enter Tryd.func122, Tryd.ntmps122
  go_wp2_with (first | (go_at_call 93; refine (errorIf_c _ _ _).mono ?_; rintro e_ w_ ⟨rfl, rfl⟩) | (go_at_call 94; refine (outside_c _ _ _ _).mono ?_; rintro e_ w_ ⟨rfl, rfl⟩))
  go_ret
  exact ⟨rfl, rfl⟩

theorem lagError_c (V M : Option Addr) (n m q1 q2 : Nat) (lag : Int) (w : World) (hn : n ≤ 1000) :
    Calls Tryd.prog 121 #[.agg #[.slice V n q1, .slice M m q2], .int .i64 lag] w fun r w' => r = .returned (.int .i64 (lagE n lag)) ∧ Below w.heap.size w w' := by
  go_enter Tryd.func121, Tryd.ntmps121
  go_wp2_with (first | (go_at_call 93; refine (errorIf_c _ _ _).mono ?_; rintro e_ w_ ⟨rfl, rfl⟩) | (go_at_call 94; refine (outside_c _ _ _ _).mono ?_; rintro e_ w_ ⟨rfl, rfl⟩))
  go_ret
  exact ⟨rfl, alloc_bel _ _⟩

theorem ruleError_c (b t : Int) (w : World) : Calls Tryd.prog 124 #[.agg #[.int .i64 b, .int .i64 t]] w fun r w' => r = .returned (.int .i64 (ruE b t)) ∧ Below w.heap.size w w' := by
  have hX := Blk.new w 105 [.int .i64 b, .int .i64 t]
  have hA := alloc_bel w (.cells #[.int .i64 b, .int .i64 t] 105)
  go_enter Tryd.func124, Tryd.ntmps124
  go_upto_region 1 with fail
  obtain ⟨W, hW⟩ : ∃ W, w.alloc (.cells #[.int .i64 b, .int .i64 t] 105) = W := ⟨_, rfl⟩
  rw [hW] at hX hA ⊢
  clear hW
  have c0 := hX.cell 0; have c1 := hX.cell 1; simp only [List.getElem?_cons_zero, List.getElem?_cons_succ] at c0 c1
  have hxl := hX.lt
  go_region_held3 (fun w' => (∀ b o, b < W.heap.size → w'.cell? ⟨b, o, none⟩ = W.cell? ⟨b, o, none⟩) ∧ Below W.heap.size W w')
    (first | with_reducible exact kp_refl W | with_reducible exact kp ((alloc_bel W _).drew))
    (first
      | (go_at_call 122; refine (budgetError_c _ _).mono ?_; rintro e_ w_ ⟨rfl, rfl⟩) | (go_at_call 93; refine (errorIf_c _ _ _).mono ?_; rintro e_ w_ ⟨rfl, rfl⟩) | (go_at_call 94; refine (outside_c _ _ _ _).mono ?_; rintro e_ w_ ⟨rfl, rfl⟩) | (go_at_call 92; refine (firstError_2d _ _ _).mono ?_; rintro e_ w_ ⟨rfl, rfl⟩))
  go_wp2
  go_ret
  exact ⟨rfl, bel_tr hA hA.size (alloc_bel W _).drew⟩

theorem refBudgetErr_c (b : Int) (w : World) : Calls Tryd.prog 75 #[.int .i64 b] w fun r w' => r = .returned (.int .i64 (bgE b)) ∧ w = w' := by
  unfold bgE errIf
  cases h : outB b 0 2000000 <;> (
    go_enter Tryd.func75, Tryd.ntmps75
    go_wp2_with (first | (go_at_call 26; refine (within_c _ _ _ _).mono ?_; rintro e w' ⟨rfl, rfl⟩; rw [h]))
    go_ret
    exact ⟨rfl, rfl⟩)

theorem refRuleErr_c (b t : Int) (w : World) : Calls Tryd.prog 74 #[.agg #[.int .i64 b, .int .i64 t]] w fun r w' => r = .returned (.int .i64 (ruE b t)) ∧ Below w.heap.size w w' := by
  have hA := alloc_bel w (.cells #[.int .i64 b, .int .i64 t] 105)
  by_cases h1 : bgE b = 0
  · have HB := hide (fun W => refBudgetErr_c b W)
    rw [h1] at HB
    have e1 : ruE b t = errIf (outB t 0 1000000000) 2 := by unfold ruE firstE; rw [if_pos h1]; unfold firstE errIf; cases outB t 0 1000000000 <;> rfl
    rw [e1]
    unfold errIf
    clear h1 e1
    cases h : outB t 0 1000000000 <;> (
      go_enter Tryd.func74, Tryd.ntmps74
      go_wp2_with (first
        | (go_at_call 75; refine (HB.out _).mono ?_; rintro e w' ⟨rfl, rfl⟩)
        | (go_at_call 26; refine (within_c _ _ _ _).mono ?_; rintro e w' ⟨rfl, rfl⟩; rw [h]))
      go_ret
      exact ⟨rfl, hA⟩)
  · have e1 : ruE b t = bgE b := by unfold ruE firstE; rw [if_neg h1]
    have q1 : (bgE b != 0) = true := by simpa using h1
    rw [e1]
    have HB := hide (fun W => refBudgetErr_c b W)
    clear e1 h1
    generalize bgE b = E at HB q1 ⊢
    go_enter Tryd.func74, Tryd.ntmps74
    go_wp2_with (first
      | (go_at_call 75; refine (HB.out _).mono ?_; rintro e w' ⟨rfl, rfl⟩))
    go_ret
    exact ⟨rfl, hA⟩
end Go.Proofs.YthkmeaibppkhmaaDoor
