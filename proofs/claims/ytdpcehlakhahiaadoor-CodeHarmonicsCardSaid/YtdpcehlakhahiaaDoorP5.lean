/- Contracts: the reference's opposite code, a copy that the call owns, copies of pairs, equal pairs. -/
import Derived.Test.YtdpcehlakhahiaaDoorP4
namespace Go.Proofs.YtdpcehlakhahiaaDoor
open Go.RowKit
set_option maxRecDepth 100000

theorem own_some {w : World} {base : Nat} {e : TypeId} {size n : Nat} {v : Value} {xs : List Value} (h : w.ownsRow base e size v n xs) (h1 : 1 ≤ n) : ∃ g cap, v = .slice (some ⟨g, 0, none⟩) n cap ∧ base ≤ g ∧ g < w.heap.size := by
  rcases h.2 with ⟨rfl, rfl⟩ | ⟨g, cap, cur, rfl, hb, hg, _⟩
  · omega
  · exact ⟨g, cap, rfl, hb, (Array.getElem?_eq_some_iff.1 hg).1⟩
theorem own_base {w : World} {base e size n g cap : Nat} {xs : List Value} (h : w.ownsRow base e size (.slice (some ⟨g, 0, none⟩) n cap) n xs) : w.ownsRow g e size (.slice (some ⟨g, 0, none⟩) n cap) n xs := by
  refine ⟨h.1, ?_⟩
  rcases h.2 with ⟨h2, _⟩ | ⟨g', cap', cur, h2, _, rest⟩
  · cases h2
  · injection h2 with e1 _ e3
    injection e1 with e1
    injection e1 with e1
    subst e1 e3
    exact .inr ⟨g, cap, cur, rfl, Nat.le_refl _, rest⟩

theorem refOpposite_c (l : List Int) (A : Option Addr) (c : Nat) (w : World) (hr : Rd w A (ints l)) (hs : Small l) (hl : l.length ≤ 1000) (h1 : 1 ≤ l.length) :
    Calls Tryd.prog 20 #[.slice A l.length c] w fun r w' => (∃ g c', r = .returned (.slice (some ⟨g, 0, none⟩) l.length c') ∧ RdT w' 3 (some ⟨g, 0, none⟩) (ints (negL l)) ∧ w.heap.size ≤ g ∧ g < w'.heap.size) ∧ Below w.heap.size w w' := by
  obtain ⟨i0, hi, iz0, iz1, iz2⟩ := info_parts Tryd.info3
  go_enter Tryd.func20, Tryd.ntmps20
  go_wp2
  go_loopw [3, 4] (fun v i wr => ∃ k : Nat, k ≤ l.length ∧ i = .int .i64 k ∧ Below w.heap.size w wr ∧ wr.ownsRow w.heap.size 3 1 v k (ints ((List.range k).map (fun i => -(l.getD i 0))))) (fun _ i _ => l.length - (intOf i).toNat)
  case atStart => exact ⟨0, Nat.zero_le _, rfl, Below.refl _ _, World.ownsRow_nil _ _ _ _⟩
  case round =>
    obtain ⟨k, hk, rfl, hbr, hown⟩ := hrel
    by_cases hlt : k < l.length
    · obtain ⟨b, off, rfl, hbl, z0⟩ := (hr.bel hbr).int_at hlt
      have hgd : l[k] = l.getD k 0 := by simp [List.getD, hlt]
      rw [hgd] at z0
      obtain ⟨g1, g2⟩ := hs.at_ k
      have HS : Hid (ints ((List.range (k + 1)).map (fun i => -(l.getD i 0))) = ints ((List.range k).map (fun i => -(l.getD i 0))) ++ [.int .i64 (-(l.getD k 0))]) := by
        show _ = _; simp [List.range_succ, ints]
      clear hgd
      generalize l.getD k 0 = x at z0 g1 g2 HS
      go_wp2_with (first | (at_builtin; refine wpList_append_own _ rfl _ _ 22 rfl w.heap.size 3 i0 (.int .i64 0) 1 8 Tryd.underlying22 hi iz0 iz1 iz2 rfl (by decide) _ _ _ rfl (hown.alloc _) ⟨wr.heap.size, 0, none⟩ 1 1 [.int .i64 (-x)] rfl rfl (cell_one_new _ _ _) (by simp [Value.oneCell']) (by unfold maxLen; omega) (by omega) (by have := hbr.size; simp; omega) ?_; intro v' w5 hown5 hg5 _))
      have hb5 : Below w.heap.size w w5 := (hbr.alloc hbr.size _).grown hg5 (by have := hbr.size; simp; omega) (fun j hj => (hown.lt j hj).1)
      go_roundw
      case rel => exact ⟨k + 1, by omega, by go_num, hb5, by rw [HS.out]; exact hown5⟩
      case measure => simp [intOf]; omega
    · obtain rfl : k = l.length := by omega
      obtain ⟨g, c', rfl, hg1, hg2⟩ := own_some hown h1
      rw [negL_range] at hown
      go_wp2
      go_ret
      exact ⟨⟨g, c', rfl, RdT.of_own hown, hg1, hg2⟩, hbr⟩

theorem copyOwn_c (l : List Int) (A : Option Addr) (c : Nat) (w : World) (hr : Rd w A (ints l)) (hl : l.length ≤ 100000) (h1 : 1 ≤ l.length) :
    Calls Tryd.prog 22 #[.slice A l.length c] w fun r w' => (∃ g c', r = .returned (.slice (some ⟨g, 0, none⟩) l.length c') ∧ w'.ownsRow g 3 1 (.slice (some ⟨g, 0, none⟩) l.length c') l.length (ints l) ∧ w.heap.size ≤ g ∧ g < w'.heap.size) ∧ Below w.heap.size w w' := by
  obtain ⟨i0, hi, iz0, iz1, iz2⟩ := info_parts Tryd.info3
  go_enter Tryd.func22, Tryd.ntmps22
  go_wp2_with (first | (at_builtin; refine wpList_append_rd _ rfl _ _ 22 rfl w.heap.size 3 i0 (.int .i64 0) 1 8 Tryd.underlying22 hi iz0 iz1 iz2 rfl (by decide) (.slice (some ⟨w.heap.size, 0, none⟩) 0 0) 0 [] rfl (World.ownsRow_made w #[] 0 (Nat.le_refl _) (by unfold maxLen; omega) rfl) A l.length c (ints l) rfl (by simp) (hr.alloc _) (ints_one l) (by unfold maxLen; omega) (by omega) (by simp) ?_; intro v' w1 hown1 hg1))
  rw [Nat.zero_add, List.nil_append] at hown1
  obtain ⟨g, c', rfl, hgg, hgl⟩ := own_some hown1 h1
  have hb : Below w.heap.size w w1 := ((Below.refl _ _).alloc (Nat.le_refl _) (.cells #[] 3)).grown hg1 (by simp) (by simp [Value.ownBlock])
  go_ret
  exact ⟨⟨g, c', rfl, own_base hown1, hgg, hgl⟩, hb⟩

theorem copyPair_c (a b : List Int) (A B : Option Addr) (c d na nb : Nat) (w : World) (hna : a.length = na) (hnb : b.length = nb) (hr : Rd w A (ints a)) (hs : Rd w B (ints b)) (hl : na ≤ 1000) (hl2 : nb ≤ 1000) :
    Calls Tryd.prog 12 #[.agg #[.slice A na c, .slice B nb d]] w fun r w' =>
      (∃ A' c' B' d', r = .returned (.agg #[.slice A' na c', .slice B' nb d']) ∧ RdT w' 3 A' (ints a) ∧ RdT w' 3 B' (ints b)) ∧ Below w.heap.size w w' := by
  subst hna hnb
  have hX := Blk.new w 24 [.slice A a.length c, .slice B b.length d]
  have hY := Blk.two w 24 24 [.slice A a.length c, .slice B b.length d] [.slice none 0 0, .slice none 0 0]
  go_enter Tryd.func12, Tryd.ntmps12
  go_upto_region 1 with fail
  obtain ⟨W, hW⟩ : ∃ W, (w.alloc (.cells #[.slice A a.length c, .slice B b.length d] 24)).alloc (.cells #[.slice none 0 0, .slice none 0 0] 24) = W := ⟨_, rfl⟩
  have hwV : Below w.heap.size w W := by rw [← hW]; exact (alloc_bel _ _).alloc (by simp) _
  have hXV : Blk W w.heap.size 24 [.slice A a.length c, .slice B b.length d] := by rw [← hW]; exact hX.bel (alloc_bel _ _)
  have hYV : Blk W (w.heap.size + 1) 24 [.slice none 0 0, .slice none 0 0] := by rw [← hW]; exact hY
  rw [hW]
  clear hW hX hY
  have hzV := hXV.lt
  have c0 := hXV.cell 0; have c1 := hXV.cell 1; simp only [List.getElem?_cons_zero, List.getElem?_cons_succ] at c0 c1
  have HS := hide (show W.cell? ⟨w.heap.size, 0, none⟩ = some (.slice A a.length c) ∧ W.cell? ⟨w.heap.size, 1, none⟩ = some (.slice B b.length d) ∧ Below w.heap.size w W from ⟨c0, c1, hwV⟩)
  clear c0 c1
  obtain ⟨y, hy⟩ : ∃ y, w.heap.size + 1 = y := ⟨_, rfl⟩
  have hyw : w.heap.size ≤ y := by omega
  have hyn : w.heap.size ≠ y := by omega
  rw [hy] at hYV ⊢
  clear hy
  have HRA := hide (fun W' (h : Below w.heap.size w W') => hr.bel h)
  have HRB := hide (fun W' (h : Below w.heap.size w W') => hs.bel h)
  go_region_held3 (fun w' => w'.cell? ⟨w.heap.size, 0, none⟩ = some (.slice A a.length c) ∧ w'.cell? ⟨w.heap.size, 1, none⟩ = some (.slice B b.length d) ∧ Below w.heap.size w w')
    (first | with_reducible exact hd2_drew HS.out | with_reducible exact H3.out | with_reducible exact H4.out | with_reducible exact hd2_set (hd2_set H4.out hyn hyn hyw) hyn hyn hyw)
    (first
      | (go_at_call_of 22 (Value.slice A a.length c); refine (copyInts_c a A c _ ((hr.bel hwV).drewN 1) (by omega)).mono ?_; rintro e w3 ⟨⟨V3, d3, rfl, hr3⟩, hb3⟩; have H3 := hide (hd2_bel (hd2_drew HS.out) hb3 (by simp; omega)); have hY3 := (hYV.drewN 1).bel hb3)
      | (go_at_call_of 22 (Value.slice B b.length d); refine (copyInts_c b B d _ (hs.bel H3.out.2.2) (by omega)).mono ?_; rintro e w4 ⟨⟨M4, d4, rfl, hr4⟩, hb4⟩; have H4 := hide (hd2_bel H3.out hb4 H3.out.2.2.size); have hY4 := hY3.bel hb4; have hr34 := hr3.bel hb4; have y0 := hY4.cell 0; have y1 := hY4.cell 1; simp only [List.getElem?_cons_zero, List.getElem?_cons_succ] at y0 y1; have f0 := hY4.frozen 0; have f1 := hY4.frozen 1))
  have g1 := hY4.set_ 0 (.slice V3 a.length d3)
  have g2 := g1.set_ 1 (.slice M4 b.length d4)
  have k1 := hr34.set2 hY4 (by decide) (.slice V3 a.length d3) (.slice M4 b.length d4)
  have k2 := hr4.set2 hY4 (by decide) (.slice V3 a.length d3) (.slice M4 b.length d4)
  have hbE := (hd2_set (hd2_set (q := ⟨y, 0, none⟩) (u := .slice V3 a.length d3) H4.out hyn hyn hyw) (q := ⟨y, 1, none⟩) (u := .slice M4 b.length d4) hyn hyn hyw).2.2
  generalize ((w4.setCell ⟨y, 0, none⟩ (.slice V3 a.length d3)).setCell ⟨y, 1, none⟩ (.slice M4 b.length d4)) = WE at g2 k1 k2 hbE ⊢
  clear g1 y0 y1 f0 f1 hY4
  have z0 := g2.cell 0
  have z1 := g2.cell 1
  simp only [List.set_cons_zero, List.set_cons_succ, List.getElem?_cons_zero, List.getElem?_cons_succ] at z0 z1
  go_wp2
  refine bodyPost_ret (by simp [results, Tryd.results12, go_sem, z0, z1]; try rfl) rfl ?_
  exact ⟨⟨V3, d3, M4, d4, rfl, k1, k2⟩, hbE⟩

theorem ints_eq (l : List Int) (A B : Option Addr) (c d : Nat) (w : World) (hr : Rd w A (ints l)) (hs : Rd w B (ints l)) (hl : l.length ≤ 1000) :
    Calls Tryd.prog 30 #[.slice A l.length c, .slice B l.length d] w fun r w' => r = .returned (.bool true) ∧ Below w.heap.size w w' := by
  have h := ints_c l l A B c d w hr hs hl
  rw [decide_eq_true rfl] at h
  exact h

theorem samePair_c (a b : List Int) (A A' B B' : Option Addr) (q1 q2 q3 q4 n m : Nat) (w : World) (hn : a.length = n) (hm : b.length = m) (hl : n ≤ 1000) (hk : m ≤ 1000) (h1 : Rd w A (ints a)) (h2 : Rd w A' (ints a)) (h3 : Rd w B (ints b)) (h4 : Rd w B' (ints b)) :
    Calls Tryd.prog 16 #[.agg #[.slice A n q1, .slice B m q2], .agg #[.slice A' n q3, .slice B' m q4]] w fun r w' => r = .returned (.bool true) ∧ Below w.heap.size w w' := by
  subst hn hm
  have hX := Blk.new w 24 [.slice A a.length q1, .slice B b.length q2]
  have hY := Blk.two w 24 24 [.slice A a.length q1, .slice B b.length q2] [.slice A' a.length q3, .slice B' b.length q4]
  go_enter Tryd.func16, Tryd.ntmps16
  go_upto_region 1 with fail
  obtain ⟨W, hW⟩ : ∃ W, (w.alloc (.cells #[.slice A a.length q1, .slice B b.length q2] 24)).alloc (.cells #[.slice A' a.length q3, .slice B' b.length q4] 24) = W := ⟨_, rfl⟩
  have hwW : Below w.heap.size w W := by rw [← hW]; exact (alloc_bel _ _).alloc (by simp) _
  have hXW : Blk W w.heap.size 24 [.slice A a.length q1, .slice B b.length q2] := by rw [← hW]; exact hX.bel (alloc_bel _ _)
  have hYW : Blk W (w.heap.size + 1) 24 [.slice A' a.length q3, .slice B' b.length q4] := by rw [← hW]; exact hY
  rw [hW]
  clear hW hX hY
  have c0 := hXW.cell 0; have c1 := hXW.cell 1; simp only [List.getElem?_cons_zero, List.getElem?_cons_succ] at c0 c1
  have y0 := hYW.cell 0; have y1 := hYW.cell 1; simp only [List.getElem?_cons_zero, List.getElem?_cons_succ] at y0 y1
  go_wp2_with (first
    | (go_at_call_of 30 (Value.slice A a.length q1); refine (ints_eq a A A' q1 q3 _ (h1.bel hwW) (h2.bel hwW) hl).mono ?_; rintro e w1 ⟨rfl, hb1⟩; have hW1 := tr hwW hb1 hwW.size; have hX1 := hXW.bel hb1; have hY1 := hYW.bel hb1; have c0 := hX1.cell 0; have c1 := hX1.cell 1; simp only [List.getElem?_cons_zero, List.getElem?_cons_succ] at c0 c1; have y0 := hY1.cell 0; have y1 := hY1.cell 1; simp only [List.getElem?_cons_zero, List.getElem?_cons_succ] at y0 y1)
    | (go_at_call_of 30 (Value.slice B b.length q2); refine (ints_eq b B B' q2 q4 _ (h3.bel hW1) (h4.bel hW1) hk).mono ?_; rintro e w2 ⟨rfl, hb2⟩; have hW2 := tr hW1 hb2 hW1.size))
  go_ret
  exact ⟨rfl, hW2⟩
end Go.Proofs.YtdpcehlakhahiaaDoor
