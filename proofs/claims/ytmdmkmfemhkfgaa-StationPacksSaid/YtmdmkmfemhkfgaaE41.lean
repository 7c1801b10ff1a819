/- The law of plans: three ways. -/
import Derived.Test.YtmdmkmfemhkfgaaE40
set_option linter.unusedSimpArgs false
set_option linter.unusedVariables false
set_option linter.unusedSimpArgs false
set_option linter.unusedVariables false
namespace Go.Proofs.Ytmdmkmfemhkfgaa
open Go.RowKit
set_option maxRecDepth 100000

theorem plan_exists {n : Nat} {l : List G} (hp : ∀ k (h : k < l.length), 0 ≤ l[k].1 ∧ l[k].1 < l[k].2) (hn : 1 ≤ n) :
    ∃ k out, 1 ≤ k ∧ k ≤ n ∧ (∀ j, 1 ≤ j → j < k → planF l j n [] = none) ∧ planF l k n [] = some out := by
  obtain ⟨k, ⟨h1, h2, h3⟩, hmin⟩ := exists_least (P := fun k => 1 ≤ k ∧ k ≤ n ∧ planF l k n [] ≠ none) ⟨n, hn, Nat.le_refl _, planF_full l n hp⟩
  obtain ⟨out, ho⟩ := Option.ne_none_iff_exists'.1 h3
  refine ⟨k, out, h1, h2, fun j hj hk => ?_, ho⟩
  by_cases e : planF l j n [] = none
  · exact e
  · exact absurd ⟨hj, by omega, e⟩ (hmin j hk)
theorem plan_at {n k k' : Nat} {l : List G} {out : List Int} {v : Value} {w : World} (hp : ∀ k (h : k < l.length), 0 ≤ l[k].1 ∧ l[k].1 < l[k].2) (hk : 1 ≤ k) (hmin : ∀ j, 1 ≤ j → j < k → planF l j n [] = none) (ho : planF l k n [] = some out)
    (h : PlanAns n l k' v w) : k' = k ∧ ∃ g o c, v = .slice (some ⟨g, o, none⟩) out.length c ∧ Rd w (some ⟨g, o, none⟩) (ints out) := by
  obtain ⟨out', g, o, c, e, h1, h2, h3⟩ := plan_same hp h
  obtain ⟨g1, g2, g3, _⟩ := h
  have hkk : k' = k := by
    by_cases c1 : k < k'
    · have := g3 k hk c1
      rw [this] at ho; cases ho
    · by_cases c2 : k' < k
      · have := hmin k' g1 c2
        rw [this] at e; cases e
      · omega
  subst hkk
  rw [ho] at e
  injection e with e
  subst e
  exact ⟨rfl, g, o, c, by rw [h3]; exact h1, h2⟩
theorem refPlan_at {n k k' : Nat} {l : List G} {out : List Int} {v : Value} {w : World} (hp : ∀ k (h : k < l.length), 0 ≤ l[k].1 ∧ l[k].1 < l[k].2) (hk : 1 ≤ k) (hmin : ∀ j, 1 ≤ j → j < k → planF l j n [] = none) (ho : planF l k n [] = some out)
    (h : RefPlanAns n l k' v w) : k' = k ∧ ∃ A c, v = .slice A out.length c ∧ Rd w A (ints out) := by
  obtain ⟨out', A, c, e, h1, h2, h3⟩ := refPlan_same hp h
  obtain ⟨g1, g2, g3, _⟩ := h
  have hkk : k' = k := by
    by_cases c1 : k < k'
    · have := g3 k hk c1
      rw [this] at ho; cases ho
    · by_cases c2 : k' < k
      · have := hmin k' g1 c2
        rw [this] at e; cases e
      · omega
  subst hkk
  rw [ho] at e
  injection e with e
  subst e
  exact ⟨rfl, A, c, by rw [h3]; exact h1, h2⟩
theorem plansLaw_many (n : Int) (A B : Option Addr) (c d : Nat) (l : List G) (slots : List Int) (w : World) (hml : l.length ≤ maxLen) (hms : slots.length ≤ maxLen) (h : 30 < l.length ∨ 10 < slots.length) :
    Calls Try.prog 8 #[.agg #[.int .i64 n, .slice A l.length c], .slice B slots.length d] w fun r w' => r = .returned (.bool true) ∧ Below w.heap.size w w' := by
  obtain ⟨p, hp⟩ : ∃ p, w.heap.size = p := ⟨_, rfl⟩
  obtain ⟨W, hW⟩ : ∃ W, w.alloc (.cells #[.int .i64 n, .slice A l.length c] 71) = W := ⟨_, rfl⟩
  have hX : Blk W p 71 [.int .i64 n, .slice A l.length c] := by rw [← hW, ← hp]; exact Blk.new w _ [_, _]
  have hB : Below p w W := by rw [← hW, ← hp]; exact alloc_bel _ _
  have hpW := hX.lt
  have HW := hide hW
  clear hW
  go_enter Try.func8, Try.ntmps8
  go_upto_region 1 with fail
  try rw [hp]
  rw [HW.out]
  go_upto_region 3 with (first | (go_at_call 9; refine (awake_c _).mono ?_; rintro e_ w1 ⟨rfl, hb1⟩))
  have hX1 := hX.bel hb1
  have c0 := hX1.cell 0; have c1 := hX1.cell 1; simp only [List.getElem?_cons_zero, List.getElem?_cons_succ] at c0 c1
  have hB1 : Below p w w1 := bel_tr hB (by omega) hb1
  unfold maxLen at hml hms
  by_cases h1 : 30 < l.length
  · have i1 : decide ((30 : Int) < (l.length : Int)) = true := decide_eq_true (by omega)
    have i2 : (30 : Int) < (l.length : Int) := by omega
    clear h
    go_wp2
    go_ret
    exact ⟨rfl, by first | exact hB1 | (rw [hp]; exact hB1)⟩
  · have i1 : decide ((30 : Int) < (l.length : Int)) = false := decide_eq_false (by omega)
    have i2 : ¬ (30 : Int) < (l.length : Int) := by omega
    have i3 : decide ((10 : Int) < (slots.length : Int)) = true := decide_eq_true (by omega)
    have i4 : (10 : Int) < (slots.length : Int) := by omega
    clear h
    go_wp2
    go_ret
    exact ⟨rfl, by first | exact hB1 | (rw [hp]; exact hB1)⟩
set_option maxHeartbeats 4000000 in
theorem plansLaw_bad (n : Int) (A B : Option Addr) (c d : Nat) (l : List G) (slots : List Int) (w : World) (hr : Rd w A (gs l)) (hs : Rd w B (ints slots)) (hl : l.length ≤ 30) (hm : slots.length ≤ 10) (he : (netE n l).2 ≠ 0) :
    Calls Try.prog 8 #[.agg #[.int .i64 n, .slice A l.length c], .slice B slots.length d] w fun r w' => r = .returned (.bool true) ∧ Below w.heap.size w w' := by
  have HCN := hide (fun W (h : Rd W A (gs l)) => copyNet_c n A c l W h (by omega))
  have HCI := hide (fun W (h : Rd W B (ints slots)) => copyInts_c slots B d W h (by omega))
  have HCK := hide (fun A1 c1 W (h : Rd W A1 (gs l)) (k : l.length ≤ c1) => checkNet_c n A1 c1 l W h (by omega) k)
  have HRK := hide (fun W (h : Rd W A (gs l)) => refCheckNet_c n A c l W h (by omega))
  have HCP := hide (fun A1 c1 B1 d1 W (h : Rd W A1 (gs l)) (k : l.length ≤ c1) (h' : Rd W B1 (ints slots)) => checkPlan_c n A1 B1 c1 d1 l slots W h h' (by omega) k (by omega))
  rw [show planE n l slots = (0, (netE n l).2) by
    have e : planHead n l slots.length = (netE n l).2 := by unfold planHead; simp only [firstE]; rw [if_neg he]
    unfold planE
    rw [e, if_neg he]] at HCP
  have HPF := hide (fun A1 c1 W (h : Rd W A1 (gs l)) (k : l.length ≤ c1) => planFor_bad n A1 c1 l W h (by omega) k he)
  have HGO := hide (fun A1 c1 W (h : Rd W A1 (gs l)) (k : l.length ≤ c1) => groupOf_bad n A1 c1 l W h (by omega) k he)
  obtain ⟨i, hi⟩ : ∃ i, (netE n l).1 = i := ⟨_, rfl⟩
  obtain ⟨e0, he0⟩ : ∃ e0, (netE n l).2 = e0 := ⟨_, rfl⟩
  rw [hi, he0] at HCK HRK
  rw [he0] at HCP HPF HGO he
  dsimp only at HCP
  clear hi he0
  have j1 : (e0 != 0) = true := by simpa using he
  have j2 : (e0 != e0) = false := by simp
  have j3 : (i != i) = false := by simp
  have j4 : (e0 == e0) = true := by simp
  clear he
  obtain ⟨p, hp⟩ : ∃ p, w.heap.size = p := ⟨_, rfl⟩
  obtain ⟨W, hW⟩ : ∃ W, w.alloc (.cells #[.int .i64 n, .slice A l.length c] 71) = W := ⟨_, rfl⟩
  have hX : Blk W p 71 [.int .i64 n, .slice A l.length c] := by rw [← hW, ← hp]; exact Blk.new w _ [_, _]
  have hB : Below p w W := by rw [← hW, ← hp]; exact alloc_bel _ _
  have hpW := hX.lt
  have hrW := hr.bel (by rw [hp]; exact hB)
  have hsW := hs.bel (by rw [hp]; exact hB)
  have HW := hide hW
  clear hW
  go_enter Try.func8, Try.ntmps8
  go_upto_region 1 with fail
  try rw [hp]
  rw [HW.out]
  go_upto_region 3 with (first | (go_at_call 9; refine (awake_c _).mono ?_; rintro e_ w1 ⟨rfl, hb1⟩))
  have hX1 := hX.bel hb1
  have hr1 := hrW.bel hb1
  have hs1 := hsW.bel hb1
  have hp1 : p < w1.heap.size := hX1.lt
  have hB1 : Below p w w1 := bel_tr hB (by omega) hb1
  have i1 : decide ((30 : Int) < (l.length : Int)) = false := decide_eq_false (by omega)
  have i2 : ¬ (30 : Int) < (l.length : Int) := by omega
  have i3 : decide ((10 : Int) < (slots.length : Int)) = false := decide_eq_false (by omega)
  have i4 : ¬ (10 : Int) < (slots.length : Int) := by omega
  have c0 := hX1.cell 0; have c1 := hX1.cell 1; simp only [List.getElem?_cons_zero, List.getElem?_cons_succ] at c0 c1
  go_upto_region 5 with fail
  clear i1 i2 i3 i4
  go_upto_region 6 with (first
    | (go_at_call 37; refine (HCN.out _ hr1).mono ?_; rintro e_ w2 ⟨⟨A2, c2, rfl, ra2, ka2⟩, hb2⟩)
    | (go_at_call 36; refine (HCK.out _ _ _ ra2 ka2).mono ?_; rintro e_ w3 ⟨rfl, hb3⟩))
  clear c0 c1
  have hX2 := hX1.bel hb2
  have hr2 := hr1.bel hb2
  have hs2 := hs1.bel hb2
  have hp2 : p < w2.heap.size := hX2.lt
  have hB2 : Below p w w2 := bel_tr hB1 (by omega) hb2
  have hX3 := hX2.bel hb3
  have hr3 := hr2.bel hb3
  have hs3 := hs2.bel hb3
  have hp3 : p < w3.heap.size := hX3.lt
  have hB3 : Below p w w3 := bel_tr hB2 (by omega) hb3
  have c0 := hX3.cell 0; have c1 := hX3.cell 1; simp only [List.getElem?_cons_zero, List.getElem?_cons_succ] at c0 c1
  go_upto_region 7 with (first
    | (go_at_call 37; refine (HCN.out _ hr3).mono ?_; rintro e_ w4 ⟨⟨A4, c4, rfl, ra4, ka4⟩, hb4⟩; have hs4 := hs3.bel hb4)
    | (go_at_call 28; refine (HCI.out _ hs4).mono ?_; rintro e_ w5 ⟨⟨A5, c5, rfl, ra5⟩, hb5⟩; have ra45 := ra4.bel hb5)
    | (go_at_call 38; refine (HCP.out _ _ _ _ _ ra45 ka4 ra5.1).mono ?_; rintro e_ w6 ⟨rfl, hb6⟩))
  clear c0 c1 hs4
  have hX4 := hX3.bel hb4
  have hr4 := hr3.bel hb4
  have hs4 := hs3.bel hb4
  have hp4 : p < w4.heap.size := hX4.lt
  have hB4 : Below p w w4 := bel_tr hB3 (by omega) hb4
  have hX5 := hX4.bel hb5
  have hr5 := hr4.bel hb5
  have hs5 := hs4.bel hb5
  have hp5 : p < w5.heap.size := hX5.lt
  have hB5 : Below p w w5 := bel_tr hB4 (by omega) hb5
  have hX6 := hX5.bel hb6
  have hr6 := hr5.bel hb6
  have hs6 := hs5.bel hb6
  have hp6 : p < w6.heap.size := hX6.lt
  have hB6 : Below p w w6 := bel_tr hB5 (by omega) hb6
  have c0 := hX6.cell 0; have c1 := hX6.cell 1; simp only [List.getElem?_cons_zero, List.getElem?_cons_succ] at c0 c1
  go_upto_region 8 with (first
    | (go_at_call 37; refine (HCN.out _ hr6).mono ?_; rintro e_ w7 ⟨⟨A7, c7, rfl, ra7, ka7⟩, hb7⟩)
    | (go_at_call 39; refine (HPF.out _ _ _ ra7 ka7).mono ?_; rintro e_ w8 ⟨rfl, hb8⟩))
  clear c0 c1
  have hX7 := hX6.bel hb7
  have hr7 := hr6.bel hb7
  have hs7 := hs6.bel hb7
  have hp7 : p < w7.heap.size := hX7.lt
  have hB7 : Below p w w7 := bel_tr hB6 (by omega) hb7
  have hX8 := hX7.bel hb8
  have hr8 := hr7.bel hb8
  have hs8 := hs7.bel hb8
  have hp8 : p < w8.heap.size := hX8.lt
  have hB8 : Below p w w8 := bel_tr hB7 (by omega) hb8
  have c0 := hX8.cell 0; have c1 := hX8.cell 1; simp only [List.getElem?_cons_zero, List.getElem?_cons_succ] at c0 c1
  go_upto_region 9 with (first
    | (go_at_call 37; refine (HCN.out _ hr8).mono ?_; rintro e_ w9 ⟨⟨A9, c9, rfl, ra9, ka9⟩, hb9⟩)
    | (go_at_call 40; refine (HGO.out _ _ _ ra9 ka9).mono ?_; rintro e_ w10 ⟨rfl, hb10⟩))
  clear c0 c1
  have hX9 := hX8.bel hb9
  have hr9 := hr8.bel hb9
  have hs9 := hs8.bel hb9
  have hp9 : p < w9.heap.size := hX9.lt
  have hB9 : Below p w w9 := bel_tr hB8 (by omega) hb9
  have hX10 := hX9.bel hb10
  have hr10 := hr9.bel hb10
  have hs10 := hs9.bel hb10
  have hp10 : p < w10.heap.size := hX10.lt
  have hB10 : Below p w w10 := bel_tr hB9 (by omega) hb10
  have c0 := hX10.cell 0; have c1 := hX10.cell 1; simp only [List.getElem?_cons_zero, List.getElem?_cons_succ] at c0 c1
  go_upto_region 10 with (first
    | (go_at_call 41; refine (HRK.out _ hr10).mono ?_; rintro e_ w11 ⟨rfl, hb11⟩))
  clear c0 c1
  have hX11 := hX10.bel hb11
  have hr11 := hr10.bel hb11
  have hs11 := hs10.bel hb11
  have hp11 : p < w11.heap.size := hX11.lt
  have hB11 : Below p w w11 := bel_tr hB10 (by omega) hb11
  --<Y10
  refine WL.region ?_
  refine WL.take (by kernel_rfl) (fun K hK => ?_)
  go_simp
  refine hK _ _ ?_
  clear hK K
  refine WL.take (by kernel_rfl) (fun K hK => ?_)
  go_simp
  refine hK _ _ ?_
  clear hK K
  refine WL.take (by kernel_rfl) (fun K hK => ?_)
  go_simp
  refine hK _ _ ?_
  clear hK K
  refine WL.take (by kernel_rfl) (fun K hK => ?_)
  go_simp
  refine hK _ _ ?_
  clear hK K
  refine WL.take (by kernel_rfl) (fun K hK => ?_)
  go_simp
  refine hK _ _ ?_
  clear hK K
  refine WL.take (by kernel_rfl) (fun K hK => ?_)
  go_simp
  refine hK _ _ ?_
  clear hK K
  refine WL.take (by kernel_rfl) (fun K hK => ?_)
  go_simp
  refine hK _ _ ?_
  clear hK K
  refine WL.take (by kernel_rfl) (fun K hK => ?_)
  go_simp
  refine hK _ _ ?_
  clear hK K
  refine WL.nil ?_
  go_upto_region 13 with fail
  refine WL.region ?_
  refine WL.take (by kernel_rfl) (fun K hK => ?_)
  go_simp
  refine hK _ _ ?_
  clear hK K
  refine WL.take (by kernel_rfl) (fun K hK => ?_)
  go_simp
  refine hK _ _ ?_
  clear hK K
  refine WL.take (by kernel_rfl) (fun K hK => ?_)
  go_simp
  refine hK _ _ ?_
  clear hK K
  refine WL.take (by kernel_rfl) (fun K hK => ?_)
  go_simp
  refine hK _ _ ?_
  clear hK K
  refine WL.take (by kernel_rfl) (fun K hK => ?_)
  go_simp
  refine hK _ _ ?_
  clear hK K
  refine WL.take (by kernel_rfl) (fun K hK => ?_)
  go_simp
  refine hK _ _ ?_
  clear hK K
  refine WL.take (by kernel_rfl) (fun K hK => ?_)
  go_simp
  refine hK _ _ ?_
  clear hK K
  refine WL.take (by kernel_rfl) (fun K hK => ?_)
  go_simp
  refine hK _ _ ?_
  clear hK K
  refine WL.take (by kernel_rfl) (fun K hK => ?_)
  go_simp
  refine hK _ _ ?_
  clear hK K
  refine WL.take (by kernel_rfl) (fun K hK => ?_)
  go_simp
  refine hK _ _ ?_
  clear hK K
  refine WL.take (by kernel_rfl) (fun K hK => ?_)
  go_simp
  refine hK _ _ ?_
  clear hK K
  refine WL.take (by kernel_rfl) (fun K hK => ?_)
  go_simp
  refine hK _ _ ?_
  clear hK K
  refine WL.take (by kernel_rfl) (fun K hK => ?_)
  go_simp
  refine hK _ _ ?_
  clear hK K
  refine WL.take (by kernel_rfl) (fun K hK => ?_)
  go_simp
  refine hK _ _ ?_
  clear hK K
  refine WL.take (by kernel_rfl) (fun K hK => ?_)
  go_simp
  refine hK _ _ ?_
  clear hK K
  refine WL.take (by kernel_rfl) (fun K hK => ?_)
  go_simp
  refine hK _ _ ?_
  clear hK K
  refine WL.take (by kernel_rfl) (fun K hK => ?_)
  go_simp
  refine hK _ _ ?_
  clear hK K
  refine WL.take (by kernel_rfl) (fun K hK => ?_)
  go_simp
  refine hK _ _ ?_
  clear hK K
  refine WL.take (by kernel_rfl) (fun K hK => ?_)
  go_simp
  refine hK _ _ ?_
  clear hK K
  refine WL.take (by kernel_rfl) (fun K hK => ?_)
  go_simp
  refine hK _ _ ?_
  clear hK K
  refine WL.take (by kernel_rfl) (fun K hK => ?_)
  go_simp
  refine hK _ _ ?_
  clear hK K
  refine WL.take (by kernel_rfl) (fun K hK => ?_)
  go_simp
  refine hK _ _ ?_
  clear hK K
  refine WL.take (by kernel_rfl) (fun K hK => ?_)
  go_simp
  refine hK _ _ ?_
  clear hK K
  refine WL.take (by kernel_rfl) (fun K hK => ?_)
  go_simp
  refine hK _ _ ?_
  clear hK K
  refine WL.take (by kernel_rfl) (fun K hK => ?_)
  go_simp
  refine hK _ _ ?_
  clear hK K
  refine WL.take (by kernel_rfl) (fun K hK => ?_)
  go_simp
  refine hK _ _ ?_
  clear hK K
  refine WL.take (by kernel_rfl) (fun K hK => ?_)
  go_simp
  refine hK _ _ ?_
  clear hK K
  refine WL.take (by kernel_rfl) (fun K hK => ?_)
  go_simp
  refine hK _ _ ?_
  clear hK K
  refine WL.take (by kernel_rfl) (fun K hK => ?_)
  go_simp
  refine hK _ _ ?_
  clear hK K
  refine WL.take (by kernel_rfl) (fun K hK => ?_)
  go_simp
  refine hK _ _ ?_
  clear hK K
  refine WL.nil ?_
  go_wp2
  go_ret
  exact ⟨rfl, by first | exact hB11 | (rw [hp]; exact hB11)⟩
  -->Y10
set_option maxHeartbeats 4000000 in
theorem plansLaw_good (n : Nat) (A B : Option Addr) (c d : Nat) (l : List G) (slots : List Int) (w : World) (hr : Rd w A (gs l)) (hs : Rd w B (ints slots)) (hl : l.length ≤ 30) (hm : slots.length ≤ 10) (he : (netE (n : Int) l).2 = 0) :
    Calls Try.prog 8 #[.agg #[.int .i64 (n : Int), .slice A l.length c], .slice B slots.length d] w fun r w' => r = .returned (.bool true) ∧ Below w.heap.size w w' := by
  have hN := netE_zero he
  have hn1 : 1 ≤ n := by have := hN.n0; omega
  have hn8 : n ≤ 8 := by have := hN.n1; omega
  have hpr : ∀ k (h : k < l.length), 0 ≤ l[k].1 ∧ l[k].1 < l[k].2 := fun k h => ⟨(hN.pair k h).1, (hN.pair k h).2.1⟩
  obtain ⟨k, out, hk1, hkn, hmin, hout⟩ := plan_exists hpr hn1
  obtain ⟨hg1, hg2⟩ := group_same hpr hn1
  have hgk := plan_group hpr hout hg2
  have hol := (plan_slot hout).1
  have HCN := hide (fun W (h : Rd W A (gs l)) => copyNet_c (n : Int) A c l W h (by omega))
  have HCI := hide (fun W (h : Rd W B (ints slots)) => copyInts_c slots B d W h (by omega))
  have HCO := hide (fun A1 c1 W (h : Rd W A1 (ints out)) => copyInts_c out A1 c1 W h (by omega))
  have HCK := hide (fun A1 c1 W (h : Rd W A1 (gs l)) (k : l.length ≤ c1) => checkNet_c (n : Int) A1 c1 l W h (by omega) k)
  have HRK := hide (fun W (h : Rd W A (gs l)) => refCheckNet_c (n : Int) A c l W h (by omega))
  have HCP := hide (fun A1 c1 B1 d1 W (h : Rd W A1 (gs l)) (k : l.length ≤ c1) (h' : Rd W B1 (ints slots)) => checkPlan_c (n : Int) A1 B1 c1 d1 l slots W h h' (by omega) k (by omega))
  have HRP := hide (fun W (h : Rd W A (gs l)) (h' : Rd W B (ints slots)) => refCheckPlan_c (n : Int) A B c d l slots W h h' (by omega) (by omega) he)
  have HCR := hide (fun A1 c1 B1 d1 W (h : Rd W A1 (gs l)) (k : l.length ≤ c1) (h' : Rd W B1 (ints out)) => checkPlan_c (n : Int) A1 B1 c1 d1 l out W h h' (by omega) k (by omega))
  rw [plan_right he hkn hout] at HCR
  dsimp only at HCR
  have HPF : Hid (∀ A1 c1 W (h : Rd W A1 (gs l)) (kk : l.length ≤ c1), Calls Try.prog 39 #[.agg #[.int .i64 (n : Int), .slice A1 l.length c1]] W fun r w' => (∃ g o cc, r = .returned (.tuple #[.slice (some ⟨g, o, none⟩) out.length cc, .int .i64 (k : Int), .int .i64 0]) ∧ Rd w' (some ⟨g, o, none⟩) (ints out)) ∧ Below W.heap.size W w') := fun A1 c1 W h kk => (planFor_ok n A1 c1 l W h (by omega) (fun W' h' => checkNet_c (n : Int) A1 c1 l W' h' (by omega) kk) he).mono fun r w' hx => by
    obtain ⟨⟨k', v, h1, h2⟩, h3⟩ := hx
    obtain ⟨rfl, g, o, cc, rfl, h4⟩ := plan_at hpr hk1 hmin hout h2
    exact ⟨⟨g, o, cc, h1, h4⟩, h3⟩
  have HRF : Hid (∀ W (h : Rd W A (gs l)), Calls Try.prog 42 #[.agg #[.int .i64 (n : Int), .slice A l.length c]] W fun r w' => (∃ A' cc, r = .returned (.tuple #[.slice A' out.length cc, .int .i64 (k : Int)]) ∧ Rd w' A' (ints out)) ∧ Below W.heap.size W w') := fun W h => (refPlanFor_c n A c l W h (by omega) hn1 hn8 hpr).mono fun r w' hx => by
    obtain ⟨⟨k', v, h1, h2⟩, h3⟩ := hx
    obtain ⟨rfl, A', cc, rfl, h4⟩ := refPlan_at hpr hk1 hmin hout h2
    exact ⟨⟨A', cc, h1, h4⟩, h3⟩
  have HGO := hide (fun A1 c1 W (h : Rd W A1 (gs l)) (k : l.length ≤ c1) => groupOf_ok n A1 c1 l W h (by omega) k he)
  have HRG := hide (fun W (h : Rd W A (gs l)) => refGroupOf_c n A c l W h (by omega) hn1 hn8)
  rw [← hg1] at HRG
  have hgl := hg2.length hpr
  generalize groupF l n n [] = gr at HGO HRG hgk hgl
  have HIO := hide (fun A1 c1 A2 c2 W (h : Rd W A1 (ints out)) (h' : Rd W A2 (ints out)) => ints_c out out A1 A2 c1 c2 W h h' (by omega))
  rw [decide_eq_true rfl] at HIO
  have HIG := hide (fun A1 c1 A2 c2 W (h : Rd W A1 (ints gr)) (h' : Rd W A2 (ints gr)) => ints_c gr gr A1 A2 c1 c2 W h h' (by omega))
  rw [decide_eq_true rfl] at HIG
  obtain ⟨i, hi⟩ : ∃ i, (netE (n : Int) l).1 = i := ⟨_, rfl⟩
  rw [hi, he] at HCK HRK
  obtain ⟨pl, hpl⟩ : ∃ pl, planE (n : Int) l slots = pl := ⟨_, rfl⟩
  rw [hpl] at HCP HRP
  obtain ⟨s1, s2⟩ := pl
  dsimp only at HCP HRP
  clear hi hpl hN hpr hmin hout hg1 hg2
  have j2 : (s2 != s2) = false := by simp
  have j3 : (i != i) = false := by simp
  have j4 : (s1 != s1) = false := by simp
  have j5 : ((k : Int) != (k : Int)) = false := by simp
  have j6 : decide ((k : Int) < (gr.length : Int)) = false := decide_eq_false (by omega)
  have j7 : ¬ (k : Int) < (gr.length : Int) := by omega
  have j8 : out.length ≤ 8 := by omega
  clear hol hgl he hkn hk1 hgk
  obtain ⟨p, hp⟩ : ∃ p, w.heap.size = p := ⟨_, rfl⟩
  obtain ⟨W, hW⟩ : ∃ W, w.alloc (.cells #[.int .i64 (n : Int), .slice A l.length c] 71) = W := ⟨_, rfl⟩
  have hX : Blk W p 71 [.int .i64 (n : Int), .slice A l.length c] := by rw [← hW, ← hp]; exact Blk.new w _ [_, _]
  have hB : Below p w W := by rw [← hW, ← hp]; exact alloc_bel _ _
  have hpW := hX.lt
  have hrW := hr.bel (by rw [hp]; exact hB)
  have hsW := hs.bel (by rw [hp]; exact hB)
  have HW := hide hW
  clear hW
  go_enter Try.func8, Try.ntmps8
  go_upto_region 1 with fail
  try rw [hp]
  rw [HW.out]
  go_upto_region 3 with (first | (go_at_call 9; refine (awake_c _).mono ?_; rintro e_ w1 ⟨rfl, hb1⟩))
  have hX1 := hX.bel hb1
  have hr1 := hrW.bel hb1
  have hs1 := hsW.bel hb1
  have hp1 : p < w1.heap.size := hX1.lt
  have hB1 : Below p w w1 := bel_tr hB (by omega) hb1
  have i1 : decide ((30 : Int) < (l.length : Int)) = false := decide_eq_false (by omega)
  have i2 : ¬ (30 : Int) < (l.length : Int) := by omega
  have i3 : decide ((10 : Int) < (slots.length : Int)) = false := decide_eq_false (by omega)
  have i4 : ¬ (10 : Int) < (slots.length : Int) := by omega
  have c0 := hX1.cell 0; have c1 := hX1.cell 1; simp only [List.getElem?_cons_zero, List.getElem?_cons_succ] at c0 c1
  go_upto_region 5 with fail
  clear i1 i2 i3 i4
  go_upto_region 6 with (first
    | (go_at_call 37; refine (HCN.out _ hr1).mono ?_; rintro e_ w2 ⟨⟨A2, c2, rfl, ra2, ka2⟩, hb2⟩)
    | (go_at_call 36; refine (HCK.out _ _ _ ra2 ka2).mono ?_; rintro e_ w3 ⟨rfl, hb3⟩))
  clear c0 c1
  have hX2 := hX1.bel hb2
  have hr2 := hr1.bel hb2
  have hs2 := hs1.bel hb2
  have hp2 : p < w2.heap.size := hX2.lt
  have hB2 : Below p w w2 := bel_tr hB1 (by omega) hb2
  have hX3 := hX2.bel hb3
  have hr3 := hr2.bel hb3
  have hs3 := hs2.bel hb3
  have hp3 : p < w3.heap.size := hX3.lt
  have hB3 : Below p w w3 := bel_tr hB2 (by omega) hb3
  have c0 := hX3.cell 0; have c1 := hX3.cell 1; simp only [List.getElem?_cons_zero, List.getElem?_cons_succ] at c0 c1
  go_upto_region 7 with (first
    | (go_at_call 37; refine (HCN.out _ hr3).mono ?_; rintro e_ w4 ⟨⟨A4, c4, rfl, ra4, ka4⟩, hb4⟩; have hs4 := hs3.bel hb4)
    | (go_at_call 28; refine (HCI.out _ hs4).mono ?_; rintro e_ w5 ⟨⟨A5, c5, rfl, ra5⟩, hb5⟩; have ra45 := ra4.bel hb5)
    | (go_at_call 38; refine (HCP.out _ _ _ _ _ ra45 ka4 ra5.1).mono ?_; rintro e_ w6 ⟨rfl, hb6⟩))
  clear c0 c1 hs4
  have hX4 := hX3.bel hb4
  have hr4 := hr3.bel hb4
  have hs4 := hs3.bel hb4
  have hp4 : p < w4.heap.size := hX4.lt
  have hB4 : Below p w w4 := bel_tr hB3 (by omega) hb4
  have hX5 := hX4.bel hb5
  have hr5 := hr4.bel hb5
  have hs5 := hs4.bel hb5
  have hp5 : p < w5.heap.size := hX5.lt
  have hB5 : Below p w w5 := bel_tr hB4 (by omega) hb5
  have hX6 := hX5.bel hb6
  have hr6 := hr5.bel hb6
  have hs6 := hs5.bel hb6
  have hp6 : p < w6.heap.size := hX6.lt
  have hB6 : Below p w w6 := bel_tr hB5 (by omega) hb6
  have c0 := hX6.cell 0; have c1 := hX6.cell 1; simp only [List.getElem?_cons_zero, List.getElem?_cons_succ] at c0 c1
  go_upto_region 8 with (first
    | (go_at_call 37; refine (HCN.out _ hr6).mono ?_; rintro e_ w7 ⟨⟨A7, c7, rfl, ra7, ka7⟩, hb7⟩)
    | (go_at_call 39; refine (HPF.out _ _ _ ra7 ka7).mono ?_; rintro e_ w8 ⟨⟨g8, o8, c8, rfl, ra8⟩, hb8⟩))
  clear c0 c1
  have hX7 := hX6.bel hb7
  have hr7 := hr6.bel hb7
  have hs7 := hs6.bel hb7
  have hp7 : p < w7.heap.size := hX7.lt
  have hB7 : Below p w w7 := bel_tr hB6 (by omega) hb7
  have hX8 := hX7.bel hb8
  have hr8 := hr7.bel hb8
  have hs8 := hs7.bel hb8
  have hp8 : p < w8.heap.size := hX8.lt
  have hB8 : Below p w w8 := bel_tr hB7 (by omega) hb8
  have c0 := hX8.cell 0; have c1 := hX8.cell 1; simp only [List.getElem?_cons_zero, List.getElem?_cons_succ] at c0 c1
  go_upto_region 9 with (first
    | (go_at_call 37; refine (HCN.out _ hr8).mono ?_; rintro e_ w9 ⟨⟨A9, c9, rfl, ra9, ka9⟩, hb9⟩)
    | (go_at_call 40; refine (HGO.out _ _ _ ra9 ka9).mono ?_; rintro e_ w10 ⟨⟨A10, c10, rfl, ra10⟩, hb10⟩))
  clear c0 c1
  have hX9 := hX8.bel hb9
  have hr9 := hr8.bel hb9
  have hs9 := hs8.bel hb9
  have hp9 : p < w9.heap.size := hX9.lt
  have hB9 : Below p w w9 := bel_tr hB8 (by omega) hb9
  have hX10 := hX9.bel hb10
  have hr10 := hr9.bel hb10
  have hs10 := hs9.bel hb10
  have hp10 : p < w10.heap.size := hX10.lt
  have hB10 : Below p w w10 := bel_tr hB9 (by omega) hb10
  have ro10 := (ra8.bel hb9).bel hb10
  have c0 := hX10.cell 0; have c1 := hX10.cell 1; simp only [List.getElem?_cons_zero, List.getElem?_cons_succ] at c0 c1
  go_upto_region 10 with (first
    | (go_at_call 41; refine (HRK.out _ hr10).mono ?_; rintro e_ w11 ⟨rfl, hb11⟩))
  clear c0 c1
  have hX11 := hX10.bel hb11
  have hr11 := hr10.bel hb11
  have hs11 := hs10.bel hb11
  have hp11 : p < w11.heap.size := hX11.lt
  have hB11 : Below p w w11 := bel_tr hB10 (by omega) hb11
  have ro11 := ro10.bel hb11
  have rg11 := ra10.bel hb11
  --<X10
  refine WL.region ?_
  refine WL.take (by kernel_rfl) (fun K hK => ?_)
  go_simp
  refine hK _ _ ?_
  clear hK K
  refine WL.take (by kernel_rfl) (fun K hK => ?_)
  go_simp
  refine hK _ _ ?_
  clear hK K
  refine WL.take (by kernel_rfl) (fun K hK => ?_)
  go_simp
  refine hK _ _ ?_
  clear hK K
  refine WL.take (by kernel_rfl) (fun K hK => ?_)
  go_simp
  refine hK _ _ ?_
  clear hK K
  refine WL.take (by kernel_rfl) (fun K hK => ?_)
  go_simp
  refine hK _ _ ?_
  clear hK K
  refine WL.take (by kernel_rfl) (fun K hK => ?_)
  go_simp
  refine hK _ _ ?_
  clear hK K
  refine WL.take (by kernel_rfl) (fun K hK => ?_)
  go_simp
  refine hK _ _ ?_
  clear hK K
  refine WL.take (by kernel_rfl) (fun K hK => ?_)
  go_simp
  refine hK _ _ ?_
  clear hK K
  refine WL.nil ?_
  have c0 := hX11.cell 0; have c1 := hX11.cell 1; simp only [List.getElem?_cons_zero, List.getElem?_cons_succ] at c0 c1
  go_upto_region 15 with (first
    | (go_at_call 42; refine (HRF.out _ hr11).mono ?_; rintro e_ w12 ⟨⟨A12, c12, rfl, ra12⟩, hb12⟩))
  clear c0 c1
  have hX12 := hX11.bel hb12
  have hr12 := hr11.bel hb12
  have hs12 := hs11.bel hb12
  have hp12 : p < w12.heap.size := hX12.lt
  have hB12 : Below p w w12 := bel_tr hB11 (by omega) hb12
  have c0 := hX12.cell 0; have c1 := hX12.cell 1; simp only [List.getElem?_cons_zero, List.getElem?_cons_succ] at c0 c1
  go_upto_region 16 with (first
    | (go_at_call 43; refine (HRP.out _ hr12 hs12).mono ?_; rintro e_ w13 ⟨rfl, hb13⟩))
  clear c0 c1
  have hX13 := hX12.bel hb13
  have hr13 := hr12.bel hb13
  have hs13 := hs12.bel hb13
  have hp13 : p < w13.heap.size := hX13.lt
  have hB13 : Below p w w13 := bel_tr hB12 (by omega) hb13
  have ro13 := (ro11.bel hb12).bel hb13
  have rq13 := ra12.bel hb13
  have rg13 := (rg11.bel hb12).bel hb13
  --<X16
  refine WL.region ?_
  refine WL.take (by kernel_rfl) (fun K hK => ?_)
  go_simp
  refine hK _ _ ?_
  clear hK K
  refine WL.take (by kernel_rfl) (fun K hK => ?_)
  go_simp
  refine hK _ _ ?_
  clear hK K
  refine WL.take (by kernel_rfl) (fun K hK => ?_)
  go_simp
  refine hK _ _ ?_
  clear hK K
  refine WL.take (by kernel_rfl) (fun K hK => ?_)
  go_simp
  refine hK _ _ ?_
  clear hK K
  refine WL.take (by kernel_rfl) (fun K hK => ?_)
  go_simp
  refine hK _ _ ?_
  clear hK K
  refine WL.take (by kernel_rfl) (fun K hK => ?_)
  go_simp
  refine hK _ _ ?_
  clear hK K
  refine WL.take (by kernel_rfl) (fun K hK => ?_)
  go_simp
  refine hK _ _ ?_
  clear hK K
  refine WL.take (by kernel_rfl) (fun K hK => ?_)
  go_simp
  refine hK _ _ ?_
  clear hK K
  refine WL.take (by kernel_rfl) (fun K hK => ?_)
  go_simp
  refine hK _ _ ?_
  clear hK K
  refine WL.take (by kernel_rfl) (fun K hK => ?_)
  go_simp
  refine hK _ _ ?_
  clear hK K
  refine WL.take (by kernel_rfl) (fun K hK => ?_)
  go_simp
  refine hK _ _ ?_
  clear hK K
  refine WL.take (by kernel_rfl) (fun K hK => ?_)
  go_simp
  refine hK _ _ ?_
  clear hK K
  refine WL.take (by kernel_rfl) (fun K hK => ?_)
  go_simp
  refine hK _ _ ?_
  clear hK K
  refine WL.take (by kernel_rfl) (fun K hK => ?_)
  go_simp
  refine hK _ _ ?_
  clear hK K
  refine WL.take (by kernel_rfl) (fun K hK => ?_)
  go_simp
  refine hK _ _ ?_
  clear hK K
  refine WL.take (by kernel_rfl) (fun K hK => ?_)
  go_simp
  refine (HIO.out _ _ _ _ _ ro13 rq13).mono ?_
  rintro e_ w14 ⟨rfl, hb14⟩
  try dsimp only
  refine hK _ _ ?_
  clear hK K
  have hX14 := hX13.bel hb14
  have hr14 := hr13.bel hb14
  have hs14 := hs13.bel hb14
  have hp14 : p < w14.heap.size := hX14.lt
  have hB14 : Below p w w14 := bel_tr hB13 (by omega) hb14
  have c0 := hX14.cell 0; have c1 := hX14.cell 1; simp only [List.getElem?_cons_zero, List.getElem?_cons_succ] at c0 c1
  refine WL.take (by kernel_rfl) (fun K hK => ?_)
  go_simp
  refine hK _ _ ?_
  clear hK K
  refine WL.take (by kernel_rfl) (fun K hK => ?_)
  go_simp
  refine hK _ _ ?_
  clear hK K
  refine WL.take (by kernel_rfl) (fun K hK => ?_)
  go_simp
  refine hK _ _ ?_
  clear hK K
  refine WL.take (by kernel_rfl) (fun K hK => ?_)
  go_simp
  refine hK _ _ ?_
  clear hK K
  refine WL.take (by kernel_rfl) (fun K hK => ?_)
  go_simp
  refine hK _ _ ?_
  clear hK K
  refine WL.take (by kernel_rfl) (fun K hK => ?_)
  go_simp
  refine hK _ _ ?_
  clear hK K
  refine WL.take (by kernel_rfl) (fun K hK => ?_)
  go_simp
  refine hK _ _ ?_
  clear hK K
  refine WL.take (by kernel_rfl) (fun K hK => ?_)
  go_simp
  refine hK _ _ ?_
  clear hK K
  refine WL.take (by kernel_rfl) (fun K hK => ?_)
  go_simp
  refine hK _ _ ?_
  clear hK K
  refine WL.take (by kernel_rfl) (fun K hK => ?_)
  go_simp
  refine hK _ _ ?_
  clear hK K
  refine WL.take (by kernel_rfl) (fun K hK => ?_)
  go_simp
  refine hK _ _ ?_
  clear hK K
  refine WL.take (by kernel_rfl) (fun K hK => ?_)
  go_simp
  refine hK _ _ ?_
  clear hK K
  refine WL.take (by kernel_rfl) (fun K hK => ?_)
  go_simp
  refine hK _ _ ?_
  clear hK K
  refine WL.take (by kernel_rfl) (fun K hK => ?_)
  go_simp
  refine hK _ _ ?_
  clear hK K
  refine WL.take (by kernel_rfl) (fun K hK => ?_)
  go_simp
  refine (HRG.out _ hr14).mono ?_
  rintro e_ w15 ⟨⟨A15, c15, rfl, ra15⟩, hb15⟩
  try dsimp only
  refine hK _ _ ?_
  clear hK K c0 c1
  have hX15 := hX14.bel hb15
  have hr15 := hr14.bel hb15
  have hs15 := hs14.bel hb15
  have hp15 : p < w15.heap.size := hX15.lt
  have hB15 : Below p w w15 := bel_tr hB14 (by omega) hb15
  have rg15 := (rg13.bel hb14).bel hb15
  refine WL.take (by kernel_rfl) (fun K hK => ?_)
  go_simp
  refine (HIG.out _ _ _ _ _ rg15 ra15).mono ?_
  rintro e_ w16 ⟨rfl, hb16⟩
  try dsimp only
  refine hK _ _ ?_
  clear hK K
  have hX16 := hX15.bel hb16
  have hr16 := hr15.bel hb16
  have hs16 := hs15.bel hb16
  have hp16 : p < w16.heap.size := hX16.lt
  have hB16 : Below p w w16 := bel_tr hB15 (by omega) hb16
  refine WL.take (by kernel_rfl) (fun K hK => ?_)
  go_simp
  refine hK _ _ ?_
  clear hK K
  refine WL.take (by kernel_rfl) (fun K hK => ?_)
  go_simp
  refine hK _ _ ?_
  clear hK K
  refine WL.take (by kernel_rfl) (fun K hK => ?_)
  go_simp
  refine hK _ _ ?_
  clear hK K
  refine WL.take (by kernel_rfl) (fun K hK => ?_)
  go_simp
  refine hK _ _ ?_
  clear hK K
  refine WL.take (by kernel_rfl) (fun K hK => ?_)
  go_simp
  refine hK _ _ ?_
  clear hK K
  refine WL.take (by kernel_rfl) (fun K hK => ?_)
  go_simp
  refine hK _ _ ?_
  clear hK K
  refine WL.take (by kernel_rfl) (fun K hK => ?_)
  go_simp
  refine hK _ _ ?_
  clear hK K
  refine WL.take (by kernel_rfl) (fun K hK => ?_)
  go_simp
  refine hK _ _ ?_
  clear hK K
  refine WL.nil ?_
  have ro16 := ((ro13.bel hb14).bel hb15).bel hb16
  have c0 := hX16.cell 0; have c1 := hX16.cell 1; simp only [List.getElem?_cons_zero, List.getElem?_cons_succ] at c0 c1
  go_upto_region 19 with (first
    | (go_at_call 37; refine (HCN.out _ hr16).mono ?_; rintro e_ w17 ⟨⟨A17, c17, rfl, ra17, ka17⟩, hb17⟩; have ro17 := ro16.bel hb17)
    | (go_at_call 28; refine (HCO.out _ _ _ ro17).mono ?_; rintro e_ w18 ⟨⟨A18, c18, rfl, ra18⟩, hb18⟩; have ra178 := ra17.bel hb18)
    | (go_at_call 38; refine (HCR.out _ _ _ _ _ ra178 ka17 ra18.1).mono ?_; rintro e_ w19 ⟨rfl, hb19⟩))
  clear c0 c1
  have hX17 := hX16.bel hb17
  have hr17 := hr16.bel hb17
  have hs17 := hs16.bel hb17
  have hp17 : p < w17.heap.size := hX17.lt
  have hB17 : Below p w w17 := bel_tr hB16 (by omega) hb17
  have hX18 := hX17.bel hb18
  have hr18 := hr17.bel hb18
  have hs18 := hs17.bel hb18
  have hp18 : p < w18.heap.size := hX18.lt
  have hB18 : Below p w w18 := bel_tr hB17 (by omega) hb18
  have hX19 := hX18.bel hb19
  have hr19 := hr18.bel hb19
  have hs19 := hs18.bel hb19
  have hp19 : p < w19.heap.size := hX19.lt
  have hB19 : Below p w w19 := bel_tr hB18 (by omega) hb19
  go_wp2
  go_ret
  exact ⟨rfl, by first | exact hB19 | (rw [hp]; exact hB19)⟩
  -->X16
  -->X10
theorem plansLaw_c (n : Int) (A B : Option Addr) (c d : Nat) (l : List G) (slots : List Int) (w : World) (hr : Rd w A (gs l)) (hs : Rd w B (ints slots)) (hml : l.length ≤ maxLen) (hms : slots.length ≤ maxLen) :
    Calls Try.prog 8 #[.agg #[.int .i64 n, .slice A l.length c], .slice B slots.length d] w fun r w' => r = .returned (.bool true) ∧ Below w.heap.size w w' := by
  by_cases h : 30 < l.length ∨ 10 < slots.length
  · exact plansLaw_many n A B c d l slots w hml hms h
  · by_cases he : (netE n l).2 = 0
    · have hN := netE_zero he
      obtain ⟨m, rfl⟩ : ∃ m : Nat, n = (m : Int) := ⟨n.toNat, by have := hN.n0; omega⟩
      exact plansLaw_good m A B c d l slots w hr hs (by omega) (by omega) he
    · exact plansLaw_bad n A B c d l slots w hr hs (by omega) (by omega) he
end Go.Proofs.Ytmdmkmfemhkfgaa
