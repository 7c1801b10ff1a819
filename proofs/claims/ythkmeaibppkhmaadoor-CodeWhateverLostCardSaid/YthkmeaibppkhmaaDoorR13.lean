/- Contracts: the sums of two lines (the program's): the errors that are known before the sums. -/
import Derived.Test.YthkmeaibppkhmaaDoorR12
namespace Go.Proofs.YthkmeaibppkhmaaDoor
open Go.RowKit
set_option maxRecDepth 100000

def combE (va vb : List (Int × Int)) (ma mb : List Int) : Int := firstE [lineE va ma, lineE vb mb, errIf ((va.length : Int) != vb.length) 13]


theorem combined_err (A MA B MB : Option Addr) (qa ra qb rb : Nat) (va vb : List (Int × Int)) (ma mb : List Int) (w : World) (hs : Rd w A (gs va)) (hr : Rd w MA (ints ma)) (hv : Rd w B (gs vb)) (hu : Rd w MB (ints mb)) (hna : va.length ≤ 1000) (hnb : vb.length ≤ 1000) (hE : combE va vb ma mb ≠ 0) :
    Calls Tryd.prog 67 #[.agg #[.slice A va.length qa, .slice MA ma.length ra], .agg #[.slice B vb.length qb, .slice MB mb.length rb]] w fun r w' =>
      r = .returned (.tuple #[.agg #[.slice none 0 0, .slice none 0 0], .int .i64 (combE va vb ma mb)]) ∧ Below w.heap.size w w' := by
  have e1 : (combE va vb ma mb != 0) = true := by simpa using hE
  obtain ⟨E, hEE⟩ : ∃ E, combE va vb ma mb = E := ⟨_, rfl⟩
  rw [hEE] at e1 ⊢
  have HEE := hide hEE
  clear hE hEE
  go_enter Tryd.func67, Tryd.ntmps67
  go_upto_region 1 with fail
  obtain ⟨W, hW⟩ : ∃ W, ((w.alloc (.cells #[.slice A va.length qa, .slice MA ma.length ra] 89)).alloc (.cells #[.slice B vb.length qb, .slice MB mb.length rb] 89)).alloc (.cells #[.slice none 0 0, .slice none 0 0] 89) = W := ⟨_, rfl⟩
  have hB : Below w.heap.size w W := by rw [← hW]; exact ((alloc_bel _ _).alloc (by simp) _).alloc (by simp; omega) _
  have hX : Blk W w.heap.size 89 [.slice A va.length qa, .slice MA ma.length ra] := by rw [← hW]; exact ((Blk.new w _ [_, _]).bel (alloc_bel _ _)).bel (alloc_bel _ _)
  have hY : Blk W (w.heap.size + 1) 89 [.slice B vb.length qb, .slice MB mb.length rb] := by rw [← hW]; exact (Blk.new2 w 89 89 [.slice A va.length qa, .slice MA ma.length ra] [.slice B vb.length qb, .slice MB mb.length rb]).bel (alloc_bel _ _)
  have hR : Blk W (w.heap.size + 1 + 1) 89 [.slice none 0 0, .slice none 0 0] := by rw [← hW]; exact Blk.new3 w 89 89 89 [.slice A va.length qa, .slice MA ma.length ra] [.slice B vb.length qb, .slice MB mb.length rb] [.slice none 0 0, .slice none 0 0]
  rw [hW]
  clear hW
  obtain ⟨y, hy⟩ : ∃ y, w.heap.size + 1 = y := ⟨_, rfl⟩
  obtain ⟨p, hp⟩ : ∃ p, y + 1 = p := ⟨_, rfl⟩
  rw [hy] at hY hR ⊢
  rw [hp] at hR ⊢
  have hyw : w.heap.size < y := by omega
  have hpw : y < p := by omega
  have hzp := hR.lt
  clear hy hp
  have c0 := hX.cell 0; have c1 := hX.cell 1; simp only [List.getElem?_cons_zero, List.getElem?_cons_succ] at c0 c1
  have y0 := hY.cell 0; have y1 := hY.cell 1; simp only [List.getElem?_cons_zero, List.getElem?_cons_succ] at y0 y1
  have HS := hide (show W.cell? ⟨w.heap.size, 0, none⟩ = some (.slice A va.length qa) ∧ W.cell? ⟨w.heap.size, 1, none⟩ = some (.slice MA ma.length ra) ∧ W.cell? ⟨y, 0, none⟩ = some (.slice B vb.length qb) ∧ W.cell? ⟨y, 1, none⟩ = some (.slice MB mb.length rb) ∧ Below W.heap.size W W from ⟨c0, c1, y0, y1, Below.refl _ _⟩)
  have ha := (hs.bel hB).drewN 1
  have hma := (hr.bel hB).drewN 1
  have hb := (hv.bel hB).drewN 1
  have hmb := (hu.bel hB).drewN 1
  clear c0 c1 y0 y1 hX hY
  go_region_held3 (fun w' => w'.cell? ⟨w.heap.size, 0, none⟩ = some (.slice A va.length qa) ∧ w'.cell? ⟨w.heap.size, 1, none⟩ = some (.slice MA ma.length ra) ∧ w'.cell? ⟨y, 0, none⟩ = some (.slice B vb.length qb) ∧ w'.cell? ⟨y, 1, none⟩ = some (.slice MB mb.length rb) ∧ Below W.heap.size W w')
    (first | with_reducible exact hd4_drew HS.out | with_reducible exact H1.out | with_reducible exact H2.out | with_reducible exact hd4_alloc H2.out H2.out.2.2.2.2.size _)
    (first
      | (go_at_call 120; have _g := H1; refine (lineError_c B MB qb rb vb mb _ (hb.bel hb1) (hmb.bel hb1) hnb).mono ?_; rintro e w2 ⟨rfl, hb2⟩; have H2 := hide (hd4_bel H1.out hb2 H1.out.2.2.2.2.size))
      | (go_at_call 120; refine (lineError_c A MA qa ra va ma _ ha hma hna).mono ?_; rintro e w1 ⟨rfl, hb1⟩; have H1 := hide (hd4_bel (hd4_drew HS.out) hb1 (by simp)))
      | (go_at_call 93; refine (errorIf_c _ _ _).mono ?_; rintro e_ w_ ⟨rfl, rfl⟩) | (go_at_call 94; refine (outside_c _ _ _ _).mono ?_; rintro e_ w_ ⟨rfl, rfl⟩) | (go_at_call 92; refine (firstError_3 _ _ _ _).mono ?_; rintro e_ w_ ⟨rfl, rfl⟩))
  have hF := hd4_alloc H2.out H2.out.2.2.2.2.size (.cells #[.int .i64 (lineE va ma), .int .i64 (lineE vb mb), .int .i64 (errIf ((va.length : Int) != vb.length) 13)] 25)
  obtain ⟨V, hV⟩ : ∃ V, w2.alloc (.cells #[.int .i64 (lineE va ma), .int .i64 (lineE vb mb), .int .i64 (errIf ((va.length : Int) != vb.length) 13)] 25) = V := ⟨_, rfl⟩
  rw [hV] at hF ⊢
  clear hV H1 H2 HS ha hma hb hmb hb1 hb2
  rw [show firstE [lineE va ma, lineE vb mb, errIf ((va.length : Int) != vb.length) 13] = combE va vb ma mb from rfl]
  generalize lineE va ma = ea
  generalize lineE vb mb = eb
  rw [HEE.out]
  have hRf := hR.below hF.2.2.2.2 hzp
  have d0 := hRf.cell 0
  have d1 := hRf.cell 1
  simp only [List.getElem?_cons_zero, List.getElem?_cons_succ] at d0 d1
  have k0 := hRf.frozen 0
  have k1 := hRf.frozen 1
  have hBE := hB.trans (hF.2.2.2.2.mono (by have := hB.size; omega))
  clear hF
  go_wp2
  obtain ⟨WE, hWE⟩ : ∃ WE, (V.setCell ⟨p, 0, none⟩ (.slice none 0 0)).setCell ⟨p, 1, none⟩ (.slice none 0 0) = WE := ⟨_, rfl⟩
  rw [hWE]
  have hE : Blk WE p 89 [.slice none 0 0, .slice none 0 0] := by rw [← hWE]; exact (hRf.set_ 0 _).set_ 1 _
  have hBF : Below w.heap.size w WE := by
    rw [← hWE]
    exact (hBE.setCell (by show w.heap.size ≤ p; omega) _).setCell (by show w.heap.size ≤ p; omega) _
  have g0 := hE.cell 0
  have g1 := hE.cell 1
  simp only [List.getElem?_cons_zero, List.getElem?_cons_succ] at g0 g1
  clear hWE
  try simp only [Exit.inBlock, Exit.then]
  refine bodyPost_ret (by simp [results, Tryd.results67, go_sem, g0, g1]; try rfl) rfl ?_
  exact ⟨rfl, hBF⟩
end Go.Proofs.YthkmeaibppkhmaaDoor
