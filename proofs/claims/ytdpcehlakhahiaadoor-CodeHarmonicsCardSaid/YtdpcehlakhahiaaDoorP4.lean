/- Contracts: the doubled and the interleaved pair (the program's). Written by tools/genp4.py. -/
import Derived.Test.YtdpcehlakhahiaaDoorP3
import Derived.Test.YtdpcehlakhahiaaDoorKp2
namespace Go.Proofs.YtdpcehlakhahiaaDoor
open Go.RowKit
set_option maxRecDepth 100000

theorem longE_zero {a b : List Int} (h : longE a b = 0) : codeE a = 0 ∧ codeE b = 0 ∧ a.length = b.length ∧ lobe a b = 0 ∧ 2 * a.length ≤ 32 := by
  have h1 := firstE_zero h
  have h2 := h1 (pairP a b).2 (by simp)
  have h3 := h1 (errIf (decide ((32 : Int) < 2 * (a.length : Int))) 8) (by simp)
  rw [pairP_of] at h2
  by_cases hc : codesE a b = 0
  · rw [if_neg (by omega)] at h2
    obtain ⟨q1, q2, q3⟩ := codesE_zero hc
    refine ⟨q1, q2, q3, ?_, ?_⟩
    · by_cases hz : lobe a b = 0
      · exact hz
      · have : (lobe a b != 0) = true := by simpa using hz
        simp [errIf, this] at h2
    · by_cases hz : (32 : Int) < 2 * (a.length : Int)
      · simp [errIf, hz] at h3
      · omega
  · rw [if_pos hc] at h2
    exact absurd h2 hc

theorem concat_n (a b : List Int) (A B : Option Addr) (na nb c d g : Nat) (w : World) (ha : a.length = na) (hb : b.length = nb) (hg : Blk w g 22 [.slice A na c, .slice B nb d]) (hr : Rd w A (ints a)) (hs : Rd w B (ints b)) (h1 : 1 ≤ na) (hl : na ≤ 1000) (hl2 : nb ≤ 1000) :
    Calls Tryd.prog 62 #[.slice (some ⟨g, 0, none⟩) 2 2] w fun r w' => (∃ A' c', r = .returned (.slice A' (na + nb) c') ∧ RdT w' 3 A' (ints (a ++ b))) ∧ Below w.heap.size w w' := by
  subst ha hb
  exact concat_c a b A B c d g w hg hr hs h1 hl hl2
theorem byTurns_n (a b : List Int) (A B : Option Addr) (na nb c d : Nat) (w : World) (ha : a.length = na) (hb : b.length = nb) (hr : Rd w A (ints a)) (hs : Rd w B (ints b)) (hl : na ≤ 1000) (hab : na = nb) :
    Calls Tryd.prog 64 #[.slice A na c, .slice B nb d] w fun r w' => (∃ A' c', r = .returned (.slice A' (2 * na) c') ∧ RdT w' 3 A' (ints (turnsTo a b na))) ∧ Below w.heap.size w w' := by
  subst ha hb
  exact byTurns_c a b A B c d w hr hs hl hab

theorem doubled_err (a b : List Int) (A B : Option Addr) (c d : Nat) (w : World) (hr : Rd w A (ints a)) (hs : Rd w B (ints b)) (hl : a.length ≤ 1000) (hl2 : b.length ≤ 1000) (h : longE a b ≠ 0) :
    Calls Tryd.prog 13 #[.agg #[.slice A a.length c, .slice B b.length d]] w fun r w' => r = .returned (.tuple #[.agg #[.slice none 0 0, .slice none 0 0], .int .i64 (longE a b)]) ∧ Below w.heap.size w w' := by
  have hX := Blk.new w 24 [.slice A a.length c, .slice B b.length d]
  have hY := Blk.two w 24 24 [.slice A a.length c, .slice B b.length d] [.slice none 0 0, .slice none 0 0]
  have HL := hide (fun W h1 h2 => longerError_c a b A B c d W h1 h2 hl hl2)
  go_enter Tryd.func13, Tryd.ntmps13
  go_upto_region 1 with fail
  obtain ⟨V, hV⟩ : ∃ V, (w.alloc (.cells #[.slice A a.length c, .slice B b.length d] 24)).alloc (.cells #[.slice none 0 0, .slice none 0 0] 24) = V := ⟨_, rfl⟩
  have hwV : Below w.heap.size w V := by rw [← hV]; exact (alloc_bel _ _).alloc (by simp) _
  have hXV : Blk V w.heap.size 24 [.slice A a.length c, .slice B b.length d] := by rw [← hV]; exact hX.bel (alloc_bel _ _)
  have hYV : Blk V (w.heap.size + 1) 24 [.slice none 0 0, .slice none 0 0] := by rw [← hV]; exact hY
  rw [hV]
  clear hV hX hY
  have hraV := hr.bel hwV
  have hrbV := hs.bel hwV
  obtain ⟨q, hq⟩ : ∃ q, w.heap.size + 1 = q := ⟨_, rfl⟩
  have hpq : w.heap.size < q := by omega
  rw [hq] at hYV ⊢
  clear hr hs
  have x0 := hXV.cell 0
  have x1 := hXV.cell 1
  simp only [List.getElem?_cons_zero, List.getElem?_cons_succ] at x0 x1
  have e1 : (longE a b != 0) = true := by simpa using h
  clear h
  go_upto_region 2 with (first | (go_at_call 61; refine (HL.out _ hraV hrbV).mono ?_; rintro e_ w1 ⟨rfl, hb1⟩))
  have hY1 := hYV.bel hb1
  have y0 := hY1.cell 0
  have y1 := hY1.cell 1
  simp only [List.getElem?_cons_zero, List.getElem?_cons_succ] at y0 y1
  have f0 := hY1.frozen 0
  have f1 := hY1.frozen 1
  have hE := hY1.set2 (.slice none 0 0) (.slice none 0 0)
  have hBE : Below w.heap.size w ((w1.setCell ⟨q, 0, none⟩ (.slice none 0 0)).setCell ⟨q, 1, none⟩ (.slice none 0 0)) := ((bel_tr hwV hwV.size hb1).setCell (by show w.heap.size ≤ q; omega) _).setCell (by show w.heap.size ≤ q; omega) _
  go_wp2
  generalize (w1.setCell ⟨q, 0, none⟩ (.slice none 0 0)).setCell ⟨q, 1, none⟩ (.slice none 0 0) = WE at hE hBE ⊢
  have z0 := hE.cell 0
  have z1 := hE.cell 1
  simp only [List.getElem?_cons_zero, List.getElem?_cons_succ] at z0 z1
  refine bodyPost_ret (by simp [results, Tryd.results13, go_sem, z0, z1]; try rfl) rfl ?_
  exact ⟨rfl, hBE⟩

set_option maxHeartbeats 2000000 in
theorem doubled_ok (a b : List Int) (A B : Option Addr) (c d : Nat) (w : World) (hr : Rd w A (ints a)) (hs : Rd w B (ints b)) (hl : a.length ≤ 1000) (hl2 : b.length ≤ 1000) (h : longE a b = 0) :
    Calls Tryd.prog 13 #[.agg #[.slice A a.length c, .slice B b.length d]] w fun r w' => (∃ (U V : Option Addr) (cu cv : Nat), r = .returned (.tuple #[.agg #[.slice U (a.length + b.length) cu, .slice V (a.length + b.length) cv], .int .i64 0]) ∧ RdT w' 3 U (ints (a ++ b)) ∧ RdT w' 3 V (ints (a ++ negL b))) ∧ Below w.heap.size w w' := by
  have hX := Blk.new w 24 [.slice A a.length c, .slice B b.length d]
  have hY := Blk.two w 24 24 [.slice A a.length c, .slice B b.length d] [.slice none 0 0, .slice none 0 0]
  have HL := hide (fun W h1 h2 => longerError_c a b A B c d W h1 h2 hl hl2)
  go_enter Tryd.func13, Tryd.ntmps13
  go_upto_region 1 with fail
  obtain ⟨V, hV⟩ : ∃ V, (w.alloc (.cells #[.slice A a.length c, .slice B b.length d] 24)).alloc (.cells #[.slice none 0 0, .slice none 0 0] 24) = V := ⟨_, rfl⟩
  have hwV : Below w.heap.size w V := by rw [← hV]; exact (alloc_bel _ _).alloc (by simp) _
  have hXV : Blk V w.heap.size 24 [.slice A a.length c, .slice B b.length d] := by rw [← hV]; exact hX.bel (alloc_bel _ _)
  have hYV : Blk V (w.heap.size + 1) 24 [.slice none 0 0, .slice none 0 0] := by rw [← hV]; exact hY
  rw [hV]
  clear hV hX hY
  have hraV := hr.bel hwV
  have hrbV := hs.bel hwV
  obtain ⟨q, hq⟩ : ∃ q, w.heap.size + 1 = q := ⟨_, rfl⟩
  have hpq : w.heap.size < q := by omega
  rw [hq] at hYV ⊢
  clear hr hs
  have x0 := hXV.cell 0
  have x1 := hXV.cell 1
  simp only [List.getElem?_cons_zero, List.getElem?_cons_succ] at x0 x1
  obtain ⟨q1, q2, q3, q4, q5⟩ := longE_zero h
  have HSB := hide (small_of_code q2)
  have HN1 : Hid (1 ≤ a.length) := (codeE_zero q1).1
  have HAB := hide q3
  have HNL : Hid ((negL b).length = b.length) := negL_length b
  rw [h] at HL
  clear h q1 q2 q3 q4
  go_upto_region 4 with (first | (go_at_call 61; refine (HL.out _ hraV hrbV).mono ?_; rintro e_ w1 ⟨rfl, hb1⟩))
  have hB1 := bel_tr hwV hwV.size hb1
  have HRA := hide (hraV.bel hb1)
  have HRB := hide (hrbV.bel hb1)
  have HYW := hide (hYV.bel hb1)
  have hX1 := hXV.bel hb1
  have hql : q < w1.heap.size := HYW.out.lt
  have y0 := HYW.out.cell 0
  have y1 := HYW.out.cell 1
  simp only [List.getElem?_cons_zero, List.getElem?_cons_succ] at y0 y1
  have f0 := HYW.out.frozen 0
  have f1 := HYW.out.frozen 1
  clear x0 x1 hXV hYV hraV hrbV hb1 HL hwV
  have x0 := hX1.cell 0
  have x1 := hX1.cell 1
  simp only [List.getElem?_cons_zero, List.getElem?_cons_succ] at x0 x1
  clear hX1
  have hqle := Nat.le_of_lt hql
  obtain ⟨W, hW⟩ : ∃ W, w1 = W := ⟨_, rfl⟩
  rw [hW] at hB1 HRA HRB HYW hql hqle y0 y1 f0 f1 x0 x1 ⊢
  clear hW
  go_region_held3 (fun w' => (∀ b o, b < q → w'.cell? ⟨b, o, none⟩ = W.cell? ⟨b, o, none⟩) ∧ Below q W w')
    ((refine kpn ?_; ((repeat' (first | with_reducible exact Below.refl _ _ | with_reducible exact (HBu.out.mono hqle) | with_reducible exact (HBv.out.mono hqle) | with_reducible exact (HBo.out.mono hqle) | with_reducible refine Below.drew ?_ | with_reducible refine bel_alloc ?_ ?_ _ | with_reducible refine Below.setCell ?_ ?_ _)); all_goals (first | omega | (simp <;> omega)))))
    (first
      | (go_at_call 62; refine (concat_n a b A B a.length b.length c d _ _ rfl rfl ?_ (HRA.out.bel (by ((repeat' (first | with_reducible exact Below.refl _ _ | with_reducible exact HBo.out | with_reducible exact HBv.out | with_reducible refine Below.drew ?_ | with_reducible refine bel_alloc ?_ ?_ _ | with_reducible refine Below.setCell ?_ ?_ _)); all_goals (first | omega | (simp <;> omega))))) (HRB.out.bel (by ((repeat' (first | with_reducible exact Below.refl _ _ | with_reducible exact HBo.out | with_reducible exact HBv.out | with_reducible refine Below.drew ?_ | with_reducible refine bel_alloc ?_ ?_ _ | with_reducible refine Below.setCell ?_ ?_ _)); all_goals (first | omega | (simp <;> omega))))) HN1.out (by omega) (by omega)).mono ?_; (focus ((repeat' (first | with_reducible exact Blk.new _ _ [_, _] | with_reducible refine Blk.dr ?_ | with_reducible refine Blk.bel ?_ (alloc_bel _ _) | with_reducible refine Blk.bel ?_ hbo | with_reducible refine Blk.bel ?_ hbv)); all_goals fail)); rintro e wu ⟨⟨U, cu, rfl, hU⟩, hbu⟩; have HBu : Hid (Below W.heap.size W wu) := (by refine bel_tr ?_ ?_ hbu; ((repeat' (first | with_reducible exact Below.refl _ _ | with_reducible exact HBo.out | with_reducible exact HBv.out | with_reducible refine Below.drew ?_ | with_reducible refine bel_alloc ?_ ?_ _ | with_reducible refine Below.setCell ?_ ?_ _)); all_goals (first | omega | (simp <;> omega)))); have su := HBu.out.size; have hYu : Blk wu q 24 [.slice none 0 0, .slice none 0 0] := (by ((repeat' (first | with_reducible exact HYW.out | with_reducible refine Blk.dr ?_ | with_reducible refine Blk.bel ?_ (alloc_bel _ _) | with_reducible refine Blk.bel ?_ hbu | with_reducible refine Blk.bel ?_ hbo | with_reducible refine Blk.bel ?_ hbv)); all_goals fail)); have yu0 := hYu.cell 0; have yu1 := hYu.cell 1; simp only [List.getElem?_cons_zero, List.getElem?_cons_succ] at yu0 yu1; have fu0 := hYu.frozen 0; have fu1 := hYu.frozen 1; have lu := hYu.lt)
      | (go_at_call 62; refine (concat_n a (negL b) A O a.length b.length c co _ _ rfl HNL.out ?_ (HRA.out.bel (by ((repeat' (first | with_reducible exact Below.refl _ _ | with_reducible exact HBu.out | with_reducible exact HBo.out | with_reducible refine Below.drew ?_ | with_reducible refine bel_alloc ?_ ?_ _ | with_reducible refine Below.setCell ?_ ?_ _)); all_goals (first | omega | (simp <;> omega))))) (RdT.bel hO (by ((repeat' (first | with_reducible exact Below.refl _ _ | with_reducible exact hbu | with_reducible refine Below.drew ?_ | with_reducible refine bel_alloc ?_ ?_ _ | with_reducible refine Below.setCell ?_ ?_ _)); all_goals (first | omega | (simp <;> omega))))).1 HN1.out (by omega) (by omega)).mono ?_; (focus ((repeat' (first | with_reducible exact Blk.new _ _ [_, _] | with_reducible refine Blk.dr ?_ | with_reducible refine Blk.bel ?_ (alloc_bel _ _) | with_reducible refine Blk.bel ?_ hbo | with_reducible refine Blk.bel ?_ hbu)); all_goals fail)); rintro e wv ⟨⟨V', cv, rfl, hV⟩, hbv⟩; have HBv : Hid (Below W.heap.size W wv) := (by refine bel_tr ?_ ?_ hbv; ((repeat' (first | with_reducible exact Below.refl _ _ | with_reducible exact HBu.out | with_reducible exact HBo.out | with_reducible refine Below.drew ?_ | with_reducible refine bel_alloc ?_ ?_ _ | with_reducible refine Below.setCell ?_ ?_ _)); all_goals (first | omega | (simp <;> omega)))); have sv := HBv.out.size; have hYv : Blk wv q 24 [.slice none 0 0, .slice none 0 0] := (by ((repeat' (first | with_reducible exact HYW.out | with_reducible refine Blk.dr ?_ | with_reducible refine Blk.bel ?_ (alloc_bel _ _) | with_reducible refine Blk.bel ?_ hbv | with_reducible refine Blk.bel ?_ hbu | with_reducible refine Blk.bel ?_ hbo)); all_goals fail)); have yv0 := hYv.cell 0; have yv1 := hYv.cell 1; simp only [List.getElem?_cons_zero, List.getElem?_cons_succ] at yv0 yv1; have fv0 := hYv.frozen 0; have fv1 := hYv.frozen 1; have lv := hYv.lt)
      | (go_at_call 63; refine (opposite_c b B d _ (HRB.out.bel (by ((repeat' (first | with_reducible exact Below.refl _ _ | with_reducible exact HBu.out | with_reducible exact HBv.out | with_reducible refine Below.drew ?_ | with_reducible refine bel_alloc ?_ ?_ _ | with_reducible refine Below.setCell ?_ ?_ _)); all_goals (first | omega | (simp <;> omega))))) HSB.out (by omega)).mono ?_; rintro e wo ⟨⟨O, co, rfl, hO⟩, hbo⟩; have HBo : Hid (Below W.heap.size W wo) := (by refine bel_tr ?_ ?_ hbo; ((repeat' (first | with_reducible exact Below.refl _ _ | with_reducible exact HBu.out | with_reducible exact HBv.out | with_reducible refine Below.drew ?_ | with_reducible refine bel_alloc ?_ ?_ _ | with_reducible refine Below.setCell ?_ ?_ _)); all_goals (first | omega | (simp <;> omega)))); have so := HBo.out.size; have hYo : Blk wo q 24 [.slice none 0 0, .slice none 0 0] := (by ((repeat' (first | with_reducible exact HYW.out | with_reducible refine Blk.dr ?_ | with_reducible refine Blk.bel ?_ (alloc_bel _ _) | with_reducible refine Blk.bel ?_ hbu | with_reducible refine Blk.bel ?_ hbv | with_reducible refine Blk.bel ?_ hbo)); all_goals fail)); have yo0 := hYo.cell 0; have yo1 := hYo.cell 1; simp only [List.getElem?_cons_zero, List.getElem?_cons_succ] at yo0 yo1; have fo0 := hYo.frozen 0; have fo1 := hYo.frozen 1; have lo := hYo.lt))
  all_goals
    generalize hWE : World.setCell (World.setCell _ ⟨q, 0, none⟩ _) ⟨q, 1, none⟩ _ = WE
    have hE : Blk WE q 24 [.slice U (a.length + b.length) cu, .slice V' (a.length + b.length) cv] := by
      rw [← hWE]
      refine Blk.set2 (a := .slice none 0 0) (b := .slice none 0 0) ?_ _ _
      ((repeat' (first | with_reducible exact HYW.out | with_reducible refine Blk.dr ?_ | with_reducible refine Blk.bel ?_ (alloc_bel _ _) | with_reducible refine Blk.bel ?_ hbu | with_reducible refine Blk.bel ?_ hbv | with_reducible refine Blk.bel ?_ hbo)); all_goals fail)
    have r1 : RdT WE 3 U (ints (a ++ b)) := by
      rw [← hWE]
      refine RdT.set2 (a := .slice none 0 0) (b := .slice none 0 0) ?_ (g := q) (e := 24) ?_ (by decide) _ _
      · ((repeat' (first | with_reducible exact hU | with_reducible exact hV | with_reducible refine RdT.dr ?_ | with_reducible refine RdT.al ?_ _ | with_reducible refine RdT.bel ?_ hbu | with_reducible refine RdT.bel ?_ hbv | with_reducible refine RdT.bel ?_ hbo)); all_goals fail)
      · ((repeat' (first | with_reducible exact HYW.out | with_reducible refine Blk.dr ?_ | with_reducible refine Blk.bel ?_ (alloc_bel _ _) | with_reducible refine Blk.bel ?_ hbu | with_reducible refine Blk.bel ?_ hbv | with_reducible refine Blk.bel ?_ hbo)); all_goals fail)
    have r2 : RdT WE 3 V' (ints (a ++ negL b)) := by
      rw [← hWE]
      refine RdT.set2 (a := .slice none 0 0) (b := .slice none 0 0) ?_ (g := q) (e := 24) ?_ (by decide) _ _
      · ((repeat' (first | with_reducible exact hU | with_reducible exact hV | with_reducible refine RdT.dr ?_ | with_reducible refine RdT.al ?_ _ | with_reducible refine RdT.bel ?_ hbu | with_reducible refine RdT.bel ?_ hbv | with_reducible refine RdT.bel ?_ hbo)); all_goals fail)
      · ((repeat' (first | with_reducible exact HYW.out | with_reducible refine Blk.dr ?_ | with_reducible refine Blk.bel ?_ (alloc_bel _ _) | with_reducible refine Blk.bel ?_ hbu | with_reducible refine Blk.bel ?_ hbv | with_reducible refine Blk.bel ?_ hbo)); all_goals fail)
    have hBE : Below q W WE := by
      rw [← hWE]
      ((repeat' (first | with_reducible exact Below.refl _ _ | with_reducible exact (HBu.out.mono hqle) | with_reducible exact (HBv.out.mono hqle) | with_reducible exact (HBo.out.mono hqle) | with_reducible refine Below.drew ?_ | with_reducible refine bel_alloc ?_ ?_ _ | with_reducible refine Below.setCell ?_ ?_ _)); all_goals (first | omega | (simp <;> omega)))
    clear hWE
    have z0 := hE.cell 0
    have z1 := hE.cell 1
    simp only [List.getElem?_cons_zero, List.getElem?_cons_succ] at z0 z1
    go_wp2
    refine bodyPost_ret (by simp [results, Tryd.results13, go_sem, z0, z1]; try rfl) rfl ?_
    exact ⟨⟨_, _, _, _, rfl, r1, r2⟩, hB1.trans (hBE.mono (by omega))⟩

theorem interleaved_err (a b : List Int) (A B : Option Addr) (c d : Nat) (w : World) (hr : Rd w A (ints a)) (hs : Rd w B (ints b)) (hl : a.length ≤ 1000) (hl2 : b.length ≤ 1000) (h : longE a b ≠ 0) :
    Calls Tryd.prog 14 #[.agg #[.slice A a.length c, .slice B b.length d]] w fun r w' => r = .returned (.tuple #[.agg #[.slice none 0 0, .slice none 0 0], .int .i64 (longE a b)]) ∧ Below w.heap.size w w' := by
  have hX := Blk.new w 24 [.slice A a.length c, .slice B b.length d]
  have hY := Blk.two w 24 24 [.slice A a.length c, .slice B b.length d] [.slice none 0 0, .slice none 0 0]
  have HL := hide (fun W h1 h2 => longerError_c a b A B c d W h1 h2 hl hl2)
  go_enter Tryd.func14, Tryd.ntmps14
  go_upto_region 1 with fail
  obtain ⟨V, hV⟩ : ∃ V, (w.alloc (.cells #[.slice A a.length c, .slice B b.length d] 24)).alloc (.cells #[.slice none 0 0, .slice none 0 0] 24) = V := ⟨_, rfl⟩
  have hwV : Below w.heap.size w V := by rw [← hV]; exact (alloc_bel _ _).alloc (by simp) _
  have hXV : Blk V w.heap.size 24 [.slice A a.length c, .slice B b.length d] := by rw [← hV]; exact hX.bel (alloc_bel _ _)
  have hYV : Blk V (w.heap.size + 1) 24 [.slice none 0 0, .slice none 0 0] := by rw [← hV]; exact hY
  rw [hV]
  clear hV hX hY
  have hraV := hr.bel hwV
  have hrbV := hs.bel hwV
  obtain ⟨q, hq⟩ : ∃ q, w.heap.size + 1 = q := ⟨_, rfl⟩
  have hpq : w.heap.size < q := by omega
  rw [hq] at hYV ⊢
  clear hr hs
  have x0 := hXV.cell 0
  have x1 := hXV.cell 1
  simp only [List.getElem?_cons_zero, List.getElem?_cons_succ] at x0 x1
  have e1 : (longE a b != 0) = true := by simpa using h
  clear h
  go_upto_region 2 with (first | (go_at_call 61; refine (HL.out _ hraV hrbV).mono ?_; rintro e_ w1 ⟨rfl, hb1⟩))
  have hY1 := hYV.bel hb1
  have y0 := hY1.cell 0
  have y1 := hY1.cell 1
  simp only [List.getElem?_cons_zero, List.getElem?_cons_succ] at y0 y1
  have f0 := hY1.frozen 0
  have f1 := hY1.frozen 1
  have hE := hY1.set2 (.slice none 0 0) (.slice none 0 0)
  have hBE : Below w.heap.size w ((w1.setCell ⟨q, 0, none⟩ (.slice none 0 0)).setCell ⟨q, 1, none⟩ (.slice none 0 0)) := ((bel_tr hwV hwV.size hb1).setCell (by show w.heap.size ≤ q; omega) _).setCell (by show w.heap.size ≤ q; omega) _
  go_wp2
  generalize (w1.setCell ⟨q, 0, none⟩ (.slice none 0 0)).setCell ⟨q, 1, none⟩ (.slice none 0 0) = WE at hE hBE ⊢
  have z0 := hE.cell 0
  have z1 := hE.cell 1
  simp only [List.getElem?_cons_zero, List.getElem?_cons_succ] at z0 z1
  refine bodyPost_ret (by simp [results, Tryd.results14, go_sem, z0, z1]; try rfl) rfl ?_
  exact ⟨rfl, hBE⟩

set_option maxHeartbeats 2000000 in
theorem interleaved_ok (a b : List Int) (A B : Option Addr) (c d : Nat) (w : World) (hr : Rd w A (ints a)) (hs : Rd w B (ints b)) (hl : a.length ≤ 1000) (hl2 : b.length ≤ 1000) (h : longE a b = 0) :
    Calls Tryd.prog 14 #[.agg #[.slice A a.length c, .slice B b.length d]] w fun r w' => (∃ (U V : Option Addr) (cu cv : Nat), r = .returned (.tuple #[.agg #[.slice U (2 * a.length) cu, .slice V (2 * a.length) cv], .int .i64 0]) ∧ RdT w' 3 U (ints (turnsTo a b a.length)) ∧ RdT w' 3 V (ints (turnsTo a (negL b) a.length))) ∧ Below w.heap.size w w' := by
  have hX := Blk.new w 24 [.slice A a.length c, .slice B b.length d]
  have hY := Blk.two w 24 24 [.slice A a.length c, .slice B b.length d] [.slice none 0 0, .slice none 0 0]
  have HL := hide (fun W h1 h2 => longerError_c a b A B c d W h1 h2 hl hl2)
  go_enter Tryd.func14, Tryd.ntmps14
  go_upto_region 1 with fail
  obtain ⟨V, hV⟩ : ∃ V, (w.alloc (.cells #[.slice A a.length c, .slice B b.length d] 24)).alloc (.cells #[.slice none 0 0, .slice none 0 0] 24) = V := ⟨_, rfl⟩
  have hwV : Below w.heap.size w V := by rw [← hV]; exact (alloc_bel _ _).alloc (by simp) _
  have hXV : Blk V w.heap.size 24 [.slice A a.length c, .slice B b.length d] := by rw [← hV]; exact hX.bel (alloc_bel _ _)
  have hYV : Blk V (w.heap.size + 1) 24 [.slice none 0 0, .slice none 0 0] := by rw [← hV]; exact hY
  rw [hV]
  clear hV hX hY
  have hraV := hr.bel hwV
  have hrbV := hs.bel hwV
  obtain ⟨q, hq⟩ : ∃ q, w.heap.size + 1 = q := ⟨_, rfl⟩
  have hpq : w.heap.size < q := by omega
  rw [hq] at hYV ⊢
  clear hr hs
  have x0 := hXV.cell 0
  have x1 := hXV.cell 1
  simp only [List.getElem?_cons_zero, List.getElem?_cons_succ] at x0 x1
  obtain ⟨q1, q2, q3, q4, q5⟩ := longE_zero h
  have HSB := hide (small_of_code q2)
  have HN1 : Hid (1 ≤ a.length) := (codeE_zero q1).1
  have HAB := hide q3
  have HNL : Hid ((negL b).length = b.length) := negL_length b
  rw [h] at HL
  clear h q1 q2 q3 q4
  go_upto_region 4 with (first | (go_at_call 61; refine (HL.out _ hraV hrbV).mono ?_; rintro e_ w1 ⟨rfl, hb1⟩))
  have hB1 := bel_tr hwV hwV.size hb1
  have HRA := hide (hraV.bel hb1)
  have HRB := hide (hrbV.bel hb1)
  have HYW := hide (hYV.bel hb1)
  have hX1 := hXV.bel hb1
  have hql : q < w1.heap.size := HYW.out.lt
  have y0 := HYW.out.cell 0
  have y1 := HYW.out.cell 1
  simp only [List.getElem?_cons_zero, List.getElem?_cons_succ] at y0 y1
  have f0 := HYW.out.frozen 0
  have f1 := HYW.out.frozen 1
  clear x0 x1 hXV hYV hraV hrbV hb1 HL hwV
  have x0 := hX1.cell 0
  have x1 := hX1.cell 1
  simp only [List.getElem?_cons_zero, List.getElem?_cons_succ] at x0 x1
  clear hX1
  have hqle := Nat.le_of_lt hql
  obtain ⟨W, hW⟩ : ∃ W, w1 = W := ⟨_, rfl⟩
  rw [hW] at hB1 HRA HRB HYW hql hqle y0 y1 f0 f1 x0 x1 ⊢
  clear hW
  go_region_held3 (fun w' => (∀ b o, b < q → w'.cell? ⟨b, o, none⟩ = W.cell? ⟨b, o, none⟩) ∧ Below q W w')
    ((refine kpn ?_; ((repeat' (first | with_reducible exact Below.refl _ _ | with_reducible exact (HBu.out.mono hqle) | with_reducible exact (HBv.out.mono hqle) | with_reducible exact (HBo.out.mono hqle) | with_reducible refine Below.drew ?_ | with_reducible refine bel_alloc ?_ ?_ _ | with_reducible refine Below.setCell ?_ ?_ _)); all_goals (first | omega | (simp <;> omega)))))
    (first
      | (go_at_call 64; (with_reducible show Calls _ _ #[Value.slice A _ _, Value.slice B _ _] _ _); refine (byTurns_n a b A B a.length b.length c d _ rfl rfl (HRA.out.bel (by ((repeat' (first | with_reducible exact Below.refl _ _ | with_reducible exact HBo.out | with_reducible exact HBv.out | with_reducible refine Below.drew ?_ | with_reducible refine bel_alloc ?_ ?_ _ | with_reducible refine Below.setCell ?_ ?_ _)); all_goals (first | omega | (simp <;> omega))))) (HRB.out.bel (by ((repeat' (first | with_reducible exact Below.refl _ _ | with_reducible exact HBo.out | with_reducible exact HBv.out | with_reducible refine Below.drew ?_ | with_reducible refine bel_alloc ?_ ?_ _ | with_reducible refine Below.setCell ?_ ?_ _)); all_goals (first | omega | (simp <;> omega))))) (by omega) HAB.out).mono ?_; rintro e wu ⟨⟨U, cu, rfl, hU⟩, hbu⟩; have HBu : Hid (Below W.heap.size W wu) := (by refine bel_tr ?_ ?_ hbu; ((repeat' (first | with_reducible exact Below.refl _ _ | with_reducible exact HBo.out | with_reducible exact HBv.out | with_reducible refine Below.drew ?_ | with_reducible refine bel_alloc ?_ ?_ _ | with_reducible refine Below.setCell ?_ ?_ _)); all_goals (first | omega | (simp <;> omega)))); have su := HBu.out.size; have hYu : Blk wu q 24 [.slice none 0 0, .slice none 0 0] := (by ((repeat' (first | with_reducible exact HYW.out | with_reducible refine Blk.dr ?_ | with_reducible refine Blk.bel ?_ (alloc_bel _ _) | with_reducible refine Blk.bel ?_ hbu | with_reducible refine Blk.bel ?_ hbo | with_reducible refine Blk.bel ?_ hbv)); all_goals fail)); have yu0 := hYu.cell 0; have yu1 := hYu.cell 1; simp only [List.getElem?_cons_zero, List.getElem?_cons_succ] at yu0 yu1; have fu0 := hYu.frozen 0; have fu1 := hYu.frozen 1; have lu := hYu.lt)
      | (go_at_call 64; (with_reducible show Calls _ _ #[Value.slice A _ _, Value.slice O _ _] _ _); refine (byTurns_n a (negL b) A O a.length b.length c co _ rfl HNL.out (HRA.out.bel (by ((repeat' (first | with_reducible exact Below.refl _ _ | with_reducible exact HBu.out | with_reducible exact HBo.out | with_reducible refine Below.drew ?_ | with_reducible refine bel_alloc ?_ ?_ _ | with_reducible refine Below.setCell ?_ ?_ _)); all_goals (first | omega | (simp <;> omega))))) (RdT.bel hO (by ((repeat' (first | with_reducible exact Below.refl _ _ | with_reducible exact hbu | with_reducible refine Below.drew ?_ | with_reducible refine bel_alloc ?_ ?_ _ | with_reducible refine Below.setCell ?_ ?_ _)); all_goals (first | omega | (simp <;> omega))))).1 (by omega) HAB.out).mono ?_; rintro e wv ⟨⟨V', cv, rfl, hV⟩, hbv⟩; have HBv : Hid (Below W.heap.size W wv) := (by refine bel_tr ?_ ?_ hbv; ((repeat' (first | with_reducible exact Below.refl _ _ | with_reducible exact HBu.out | with_reducible exact HBo.out | with_reducible refine Below.drew ?_ | with_reducible refine bel_alloc ?_ ?_ _ | with_reducible refine Below.setCell ?_ ?_ _)); all_goals (first | omega | (simp <;> omega)))); have sv := HBv.out.size; have hYv : Blk wv q 24 [.slice none 0 0, .slice none 0 0] := (by ((repeat' (first | with_reducible exact HYW.out | with_reducible refine Blk.dr ?_ | with_reducible refine Blk.bel ?_ (alloc_bel _ _) | with_reducible refine Blk.bel ?_ hbv | with_reducible refine Blk.bel ?_ hbu | with_reducible refine Blk.bel ?_ hbo)); all_goals fail)); have yv0 := hYv.cell 0; have yv1 := hYv.cell 1; simp only [List.getElem?_cons_zero, List.getElem?_cons_succ] at yv0 yv1; have fv0 := hYv.frozen 0; have fv1 := hYv.frozen 1; have lv := hYv.lt)
      | (go_at_call 63; refine (opposite_c b B d _ (HRB.out.bel (by ((repeat' (first | with_reducible exact Below.refl _ _ | with_reducible exact HBu.out | with_reducible exact HBv.out | with_reducible refine Below.drew ?_ | with_reducible refine bel_alloc ?_ ?_ _ | with_reducible refine Below.setCell ?_ ?_ _)); all_goals (first | omega | (simp <;> omega))))) HSB.out (by omega)).mono ?_; rintro e wo ⟨⟨O, co, rfl, hO⟩, hbo⟩; have HBo : Hid (Below W.heap.size W wo) := (by refine bel_tr ?_ ?_ hbo; ((repeat' (first | with_reducible exact Below.refl _ _ | with_reducible exact HBu.out | with_reducible exact HBv.out | with_reducible refine Below.drew ?_ | with_reducible refine bel_alloc ?_ ?_ _ | with_reducible refine Below.setCell ?_ ?_ _)); all_goals (first | omega | (simp <;> omega)))); have so := HBo.out.size; have hYo : Blk wo q 24 [.slice none 0 0, .slice none 0 0] := (by ((repeat' (first | with_reducible exact HYW.out | with_reducible refine Blk.dr ?_ | with_reducible refine Blk.bel ?_ (alloc_bel _ _) | with_reducible refine Blk.bel ?_ hbu | with_reducible refine Blk.bel ?_ hbv | with_reducible refine Blk.bel ?_ hbo)); all_goals fail)); have yo0 := hYo.cell 0; have yo1 := hYo.cell 1; simp only [List.getElem?_cons_zero, List.getElem?_cons_succ] at yo0 yo1; have fo0 := hYo.frozen 0; have fo1 := hYo.frozen 1; have lo := hYo.lt))
  all_goals
    generalize hWE : World.setCell (World.setCell _ ⟨q, 0, none⟩ _) ⟨q, 1, none⟩ _ = WE
    have hE : Blk WE q 24 [.slice U (2 * a.length) cu, .slice V' (2 * a.length) cv] := by
      rw [← hWE]
      refine Blk.set2 (a := .slice none 0 0) (b := .slice none 0 0) ?_ _ _
      ((repeat' (first | with_reducible exact HYW.out | with_reducible refine Blk.dr ?_ | with_reducible refine Blk.bel ?_ (alloc_bel _ _) | with_reducible refine Blk.bel ?_ hbu | with_reducible refine Blk.bel ?_ hbv | with_reducible refine Blk.bel ?_ hbo)); all_goals fail)
    have r1 : RdT WE 3 U (ints (turnsTo a b a.length)) := by
      rw [← hWE]
      refine RdT.set2 (a := .slice none 0 0) (b := .slice none 0 0) ?_ (g := q) (e := 24) ?_ (by decide) _ _
      · ((repeat' (first | with_reducible exact hU | with_reducible exact hV | with_reducible refine RdT.dr ?_ | with_reducible refine RdT.al ?_ _ | with_reducible refine RdT.bel ?_ hbu | with_reducible refine RdT.bel ?_ hbv | with_reducible refine RdT.bel ?_ hbo)); all_goals fail)
      · ((repeat' (first | with_reducible exact HYW.out | with_reducible refine Blk.dr ?_ | with_reducible refine Blk.bel ?_ (alloc_bel _ _) | with_reducible refine Blk.bel ?_ hbu | with_reducible refine Blk.bel ?_ hbv | with_reducible refine Blk.bel ?_ hbo)); all_goals fail)
    have r2 : RdT WE 3 V' (ints (turnsTo a (negL b) a.length)) := by
      rw [← hWE]
      refine RdT.set2 (a := .slice none 0 0) (b := .slice none 0 0) ?_ (g := q) (e := 24) ?_ (by decide) _ _
      · ((repeat' (first | with_reducible exact hU | with_reducible exact hV | with_reducible refine RdT.dr ?_ | with_reducible refine RdT.al ?_ _ | with_reducible refine RdT.bel ?_ hbu | with_reducible refine RdT.bel ?_ hbv | with_reducible refine RdT.bel ?_ hbo)); all_goals fail)
      · ((repeat' (first | with_reducible exact HYW.out | with_reducible refine Blk.dr ?_ | with_reducible refine Blk.bel ?_ (alloc_bel _ _) | with_reducible refine Blk.bel ?_ hbu | with_reducible refine Blk.bel ?_ hbv | with_reducible refine Blk.bel ?_ hbo)); all_goals fail)
    have hBE : Below q W WE := by
      rw [← hWE]
      ((repeat' (first | with_reducible exact Below.refl _ _ | with_reducible exact (HBu.out.mono hqle) | with_reducible exact (HBv.out.mono hqle) | with_reducible exact (HBo.out.mono hqle) | with_reducible refine Below.drew ?_ | with_reducible refine bel_alloc ?_ ?_ _ | with_reducible refine Below.setCell ?_ ?_ _)); all_goals (first | omega | (simp <;> omega)))
    clear hWE
    have z0 := hE.cell 0
    have z1 := hE.cell 1
    simp only [List.getElem?_cons_zero, List.getElem?_cons_succ] at z0 z1
    go_wp2
    refine bodyPost_ret (by simp [results, Tryd.results14, go_sem, z0, z1]; try rfl) rfl ?_
    exact ⟨⟨_, _, _, _, rfl, r1, r2⟩, hB1.trans (hBE.mono (by omega))⟩
end Go.Proofs.YtdpcehlakhahiaaDoor
