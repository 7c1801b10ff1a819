/- Law: heights, of a frequency that is reflected. -/
import Derived.Test.YtgnhkjfdicdcmaaG4
namespace Go.Proofs.Ytgnhkjfdicdcmaa
open Go.RowKit
set_option maxRecDepth 100000

theorem refl_in {base f : Int} {l : List G} (h : (proE base l).2 = 0) (h2 : freqE f = 0) (h3 : passN l f ≠ l.length) : reflR base l f = (hgt base l (passN l f), (passN l f : Int), 0) ∧ virtR base l f = (virt base l f, 0) := by
  have e : firstE [(proE base l).2, freqE f] = 0 := by simp [firstE, h, h2]
  unfold reflR virtR
  rw [e, if_pos rfl, if_pos rfl, if_neg h3, if_neg h3]
  exact ⟨rfl, rfl⟩


set_option maxHeartbeats 4000000 in
theorem heights_in (base f : Int) (A : Option Addr) (c : Nat) (l : List G) (w : World) (hr : Rd w A (gs l)) (h14 : l.length ≤ 14) (h1 : (proE base l).2 = 0) (h2 : freqE f = 0) (h3 : passN l f ≠ l.length) :
    Calls Try.prog 8 #[.agg #[.int .i64 base, .slice A l.length c], .int .i64 f] w fun r w' => r = .returned (.bool true) ∧ Below w.heap.size w w' := by
  obtain ⟨W0, hW0⟩ : ∃ W0, w.alloc (.cells #[.int .i64 base, .slice A l.length c] 24) = W0 := ⟨_, rfl⟩
  have hX0 : Blk W0 w.heap.size 24 [.int .i64 base, .slice A l.length c] := by rw [← hW0]; exact Blk.new w _ [_, _]
  have hB0 : Below w.heap.size w W0 := by rw [← hW0]; exact alloc_bel w _
  have hr0 := hr.bel hB0
  have HW := hide hW0
  clear hW0 hr
  have c0 := hX0.cell 0; have c1 := hX0.cell 1; simp only [List.getElem?_cons_zero, List.getElem?_cons_succ] at c0 c1
  have z0 := hX0.lt
  have HFew := hide (fun W => few_c base A c l W (by unfold maxLen; omega))
  rw [decide_eq_true h14] at HFew
  have hl : l.length ≤ 1000 := by omega
  have HRA := hide (fun A c W h => reflectedAt_c base f A c l W h hl)
  have HVA := hide (fun A c W h => virtualAt_c base f A c l W h hl)
  have HPE := hide (fun W h => refErr_c base A c l W h hl)
  have HFE := hide (fun W => frequencyErr_c f W)
  have hP := proE_zero h1
  obtain ⟨f0, f1⟩ := freqE_zero.1 h2
  have HRR := hide (fun W h => refReflected_c base f A c l W h hP f0 f1)
  obtain ⟨x1, x2⟩ := refl_in h1 h2 h3
  have HVT := hide (fun W h => refVirtual_c base f A c l W h hP f0 f1 h3)
  rw [x1] at HRA
  rw [x2] at HVA
  unfold rangeV at HVA
  rw [h1] at HPE
  rw [h2] at HFE
  rw [if_neg h3] at HRR
  have hpl := passN_le l f
  clear x1 x2 h1 h2 h3 hP f0 f1
  generalize hgt base l (passN l f) = H at HRA HRR
  generalize passN l f = m at HRA HRR hpl
  generalize virt base l f = v at HVA HVT
  obtain ⟨v0, v1⟩ := v
  dsimp only at HVA HVT HRA
  go_enter Try.func8, Try.ntmps8
  go_upto_region 1 with fail
  rw [HW.out]
  go_upto_region 5 with (first
    | (go_at_call 15; refine (awake_c _).mono ?_; rintro e w1 ⟨rfl, hb1⟩; have hX1 := hX0.bel hb1; have k0 := hX1.cell 0; have k1 := hX1.cell 1; simp only [List.getElem?_cons_zero, List.getElem?_cons_succ] at k0 k1; have zk := hX1.lt)
    | (go_at_call 16; refine (HFew.out _).mono ?_; rintro e w2 ⟨rfl, hb2⟩))
  have hb02 := tr hb1 hb2 hb1.size
  have hX2 := hX1.bel hb2
  have hr2 := hr0.bel hb02
  clear c0 c1 z0 k0 k1 zk hX1 hb1 hb2 hX0 hr0
  have d0 := hX2.cell 0; have d1 := hX2.cell 1; simp only [List.getElem?_cons_zero, List.getElem?_cons_succ] at d0 d1
  have zd := hX2.lt
  go_upto_region 6 with (first
    | (go_at_call 18; refine (copy_c base A c l _ hr2 hl).mono ?_; rintro e w3 ⟨⟨A3, q3, rfl, hr3⟩, hb3⟩)
    | (go_at_call 42; refine (HRA.out A3 q3 _ hr3).mono ?_; rintro e w4 ⟨rfl, hb4⟩))
  have hb24 := tr hb3 hb4 hb3.size
  have hX4 := hX2.bel hb24
  have hr4 := hr2.bel hb24
  have hb04 := tr hb02 hb24 hb02.size
  clear d0 d1 zd hX2 hr2 hr3 hb3 hb4 hb24 hb02
  have d0 := hX4.cell 0; have d1 := hX4.cell 1; simp only [List.getElem?_cons_zero, List.getElem?_cons_succ] at d0 d1
  have zd := hX4.lt
  go_upto_region 7 with (first
    | (go_at_call 18; refine (copy_c base A c l _ hr4 hl).mono ?_; rintro e w5 ⟨⟨A5, q5, rfl, hr5⟩, hb5⟩)
    | (go_at_call 43; refine (HVA.out A5 q5 _ hr5).mono ?_; rintro e w6 ⟨rfl, hb6⟩))
  have hb46 := tr hb5 hb6 hb5.size
  obtain ⟨W7, hW7⟩ : ∃ W, w6.alloc (.cells #[.int .i64 v0, .int .i64 v1] 54) = W := ⟨_, rfl⟩
  have hb47 : Below w4.heap.size w4 W7 := by rw [← hW7]; exact bel_alloc hb46 hb46.size _
  have hP7 : Blk W7 w6.heap.size 54 [.int .i64 v0, .int .i64 v1] := by rw [← hW7]; exact Blk.new w6 _ [_, _]
  have hX7 := hX4.bel hb47
  have hr7 := hr4.bel hb47
  have hb07 := tr hb04 hb47 hb04.size
  rw [hW7]
  clear hW7 d0 d1 zd hX4 hr4 hr5 hb5 hb6 hb46 hb47 hb04
  have d0 := hX7.cell 0; have d1 := hX7.cell 1; simp only [List.getElem?_cons_zero, List.getElem?_cons_succ] at d0 d1
  have zd := hX7.lt
  go_upto_region 8 with (first
    | (go_at_call 30; refine (HPE.out _ hr7).mono ?_; rintro e w8 ⟨rfl, hb8⟩))
  have hX8 := hX7.bel hb8
  have hP8 := hP7.bel hb8
  have hr8 := hr7.bel hb8
  have hb08 := tr hb07 hb8 hb07.size
  clear d0 d1 zd hX7 hP7 hr7 hb8 hb07
  have d0 := hX8.cell 0; have d1 := hX8.cell 1; simp only [List.getElem?_cons_zero, List.getElem?_cons_succ] at d0 d1
  have g0 := hP8.cell 0; have g1 := hP8.cell 1; simp only [List.getElem?_cons_zero, List.getElem?_cons_succ] at g0 g1
  have zd := hX8.lt
  have zg := hP8.lt
  go_upto_region 17 with (first
    | (go_at_call 39; refine (HFE.out _).mono ?_; rintro e_ w_ ⟨rfl, rfl⟩)
    | (go_at_call 44; refine (HRR.out _ hr8).mono ?_; rintro e w9 ⟨rfl, hb9⟩; have hP9 := hP8.bel hb9; have hX9 := hX8.bel hb9; have hr9 := hr8.bel hb9; have m0 := hP9.cell 0; have m1 := hP9.cell 1; simp only [List.getElem?_cons_zero, List.getElem?_cons_succ] at m0 m1; have n0 := hX9.cell 0; have n1 := hX9.cell 1; simp only [List.getElem?_cons_zero, List.getElem?_cons_succ] at n0 n1; have zm := hP9.lt; have zn := hX9.lt; have hP9d : Blk w9.drew w6.heap.size 54 [.int .i64 v0, .int .i64 v1] := hP9.drw))
  have hb09 := tr hb08 hb9 hb08.size
  have hr9d := hr9.drew
  go_cut [4] from 74 to 96 (fun t wx => t = .bool true ∧ Below w.heap.size w wx)
  case first =>
    go_region_held3 (fun w' => (∀ b o, b < w9.heap.size → w'.cell? ⟨b, o, none⟩ = w9.cell? ⟨b, o, none⟩) ∧ Below w9.heap.size w9 w')
      ((refine kp ?_; (repeat' (first | with_reducible exact Below.refl _ _ | with_reducible exact HB1.out | with_reducible refine Below.drew ?_ | with_reducible refine bel_alloc ?_ ?_ _)); all_goals (first | omega | (simp <;> omega))))
      (first
        | (go_at_call 45; refine (HVT.out _ (by first | exact hr9d | exact hr9)).mono ?_; rintro e w10 ⟨rfl, hb10⟩; have HB1 : Hid (Below w9.heap.size w9 w10) := (by refine hide (Below.trans ?_ (hb10.mono ?_)); (repeat' (first | with_reducible exact Below.refl _ _ | with_reducible refine Below.drew ?_ | with_reducible refine bel_alloc ?_ ?_ _)); all_goals (first | omega | (simp <;> omega))); have s10 := HB1.out.size))
    all_goals go_wp2
    all_goals go_meet
    all_goals exact ⟨rfl, tr hB0 (tr hb09 HB1.out hb09.size) hB0.size⟩
  obtain ⟨rfl, hBc⟩ := hcut
  go_wp2
  go_ret
  exact ⟨rfl, hBc⟩
end Go.Proofs.Ytgnhkjfdicdcmaa
