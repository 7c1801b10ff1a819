/- Contracts: lines: the copy, the check (the program's). -/
import Derived.Test.YthkmeaibppkhmaaDoorL08
namespace Go.Proofs.YthkmeaibppkhmaaDoor
open Go.RowKit
set_option maxRecDepth 100000

theorem fewLine_c (V M : Option Addr) (n m q1 q2 : Nat) (w : World) :
    Calls Tryd.prog 66 #[.agg #[.slice V n q1, .slice M m q2]] w fun r w' => r = .returned (.bool (fewB n m)) ∧ Below w.heap.size w w' := by
  by_cases h1 : n ≤ 70
  · have e1 : decide ((n : Int) ≤ 70) = true := by simp; omega
    have H : Hid (fewB n m = decide ((m : Int) ≤ 70)) := by show _ = _; unfold fewB; rw [Bool.eq_iff_iff]; simp; omega
    clear h1
    go_enter Tryd.func66, Tryd.ntmps66
    go_wp2
    go_ret
    exact ⟨by rw [H.out]; rfl, (Below.refl _ _).alloc (Nat.le_refl _) _⟩
  · have e1 : decide ((n : Int) ≤ 70) = false := by simp; omega
    have H : Hid (fewB n m = false) := by show _ = _; simp [fewB, h1]
    clear h1
    go_enter Tryd.func66, Tryd.ntmps66
    go_wp2
    go_ret
    exact ⟨by rw [H.out]; rfl, (Below.refl _ _).alloc (Nat.le_refl _) _⟩

theorem copyLine_c (V M : Option Addr) (q1 q2 : Nat) (vals : List (Int × Int)) (miss : List Int) (w : World) (hs : Rd w V (gs vals)) (hr : Rd w M (ints miss)) (hn : vals.length ≤ 1000) (hg : miss.length ≤ 1000) :
    Calls Tryd.prog 68 #[.agg #[.slice V vals.length q1, .slice M miss.length q2]] w fun r w' =>
      (∃ V' q1' M' q2', r = .returned (.agg #[.slice V' vals.length q1', .slice M' miss.length q2']) ∧ RdT w' 76 V' (gs vals) ∧ RdT w' 3 M' (ints miss)) ∧ Below w.heap.size w w' := by
  have hX := Blk.new w 89 [.slice V vals.length q1, .slice M miss.length q2]
  have hY := Blk.new2 w 89 89 [.slice V vals.length q1, .slice M miss.length q2] [.slice none 0 0, .slice none 0 0]
  go_enter Tryd.func68, Tryd.ntmps68
  go_wp2
  obtain ⟨W, hW⟩ : ∃ W, (w.alloc (.cells #[.slice V vals.length q1, .slice M miss.length q2] 89)).alloc (.cells #[.slice none 0 0, .slice none 0 0] 89) = W := ⟨_, rfl⟩
  have hwV : Below w.heap.size w W := by rw [← hW]; exact (alloc_bel _ _).alloc (by simp) _
  have hXV : Blk W w.heap.size 89 [.slice V vals.length q1, .slice M miss.length q2] := by rw [← hW]; exact hX.bel (alloc_bel _ _)
  have hYV : Blk W (w.heap.size + 1) 89 [.slice none 0 0, .slice none 0 0] := by rw [← hW]; exact hY
  rw [hW]
  clear hW hX hY
  have hzV := hXV.lt
  have c0 := hXV.cell 0; have c1 := hXV.cell 1; simp only [List.getElem?_cons_zero, List.getElem?_cons_succ] at c0 c1
  have HS := hide (show W.cell? ⟨w.heap.size, 0, none⟩ = some (.slice V vals.length q1) ∧ W.cell? ⟨w.heap.size, 1, none⟩ = some (.slice M miss.length q2) ∧ Below w.heap.size w W from ⟨c0, c1, hwV⟩)
  clear c0 c1
  obtain ⟨y, hy⟩ : ∃ y, w.heap.size + 1 = y := ⟨_, rfl⟩
  have hyw : w.heap.size ≤ y := by omega
  have hyn : w.heap.size ≠ y := by omega
  rw [hy] at hYV ⊢
  clear hy
  go_region_held3 (fun w' => w'.cell? ⟨w.heap.size, 0, none⟩ = some (.slice V vals.length q1) ∧ w'.cell? ⟨w.heap.size, 1, none⟩ = some (.slice M miss.length q2) ∧ Below w.heap.size w w')
    (first | with_reducible exact hd2_drew HS.out | with_reducible exact H3.out | with_reducible exact H4.out | with_reducible exact hd2_set (hd2_set H4.out hyn hyn hyw) hyn hyn hyw)
    (first
      | (go_at_call 61; refine (copyGausses_c vals V q1 _ ((hs.bel hwV).drewN 1) (by omega)).mono ?_; rintro e w3 ⟨⟨V3, d3, rfl, hr3⟩, hb3⟩; have H3 := hide (hd2_bel (hd2_drew HS.out) hb3 (by simp; omega)); have hY3 := (hYV.drewN 1).bel hb3)
      | (go_at_call 18; refine (copyInts_c miss M q2 _ (hr.bel H3.out.2.2) (by omega)).mono ?_; rintro e w4 ⟨⟨M4, d4, rfl, hr4⟩, hb4⟩; have H4 := hide (hd2_bel H3.out hb4 H3.out.2.2.size); have hY4 := hY3.bel hb4; have hr34 := hr3.bel hb4; have y0 := hY4.cell 0; have y1 := hY4.cell 1; simp only [List.getElem?_cons_zero, List.getElem?_cons_succ] at y0 y1; have f0 := hY4.frozen 0; have f1 := hY4.frozen 1))
  have g1 := hY4.set_ 0 (.slice V3 vals.length d3)
  have g2 := g1.set_ 1 (.slice M4 miss.length d4)
  have k1 := (hr34.far hY4 (by decide) 0 (.slice V3 vals.length d3)).far g1 (by decide) 1 (.slice M4 miss.length d4)
  have k2 := (hr4.far hY4 (by decide) 0 (.slice V3 vals.length d3)).far g1 (by decide) 1 (.slice M4 miss.length d4)
  have hbE := (hd2_set (hd2_set (q := ⟨y, 0, none⟩) (u := .slice V3 vals.length d3) H4.out hyn hyn hyw) (q := ⟨y, 1, none⟩) (u := .slice M4 miss.length d4) hyn hyn hyw).2.2
  generalize ((w4.setCell ⟨y, 0, none⟩ (.slice V3 vals.length d3)).setCell ⟨y, 1, none⟩ (.slice M4 miss.length d4)) = WE at g2 k1 k2 hbE ⊢
  clear g1 y0 y1 f0 f1 hY4
  have z0 := g2.cell 0
  have z1 := g2.cell 1
  simp only [List.set_cons_zero, List.set_cons_succ, List.getElem?_cons_zero, List.getElem?_cons_succ] at z0 z1
  go_wp2
  refine bodyPost_ret (by simp [results, Tryd.results68, go_sem, z0, z1]; try rfl) rfl ?_
  exact ⟨⟨V3, d3, M4, d4, rfl, k1, k2⟩, hbE⟩
end Go.Proofs.YthkmeaibppkhmaaDoor
