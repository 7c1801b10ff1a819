/- The law CodeCombined: the call returns true, and nothing that was there turns. Condition: the laid table. -/
import Derived.Test.YthkmeaibppkhmaaDoorR17
namespace Go.Proofs.YthkmeaibppkhmaaDoor
open Go.RowKit
set_option maxRecDepth 100000


theorem combined_1 (A MA B MB : Option Addr) (qa ra qb rb : Nat) (va vb : List (Int × Int)) (ma mb : List Int) (w : World) (hT : Tab w) (hs : Rd w A (gs va)) (hr : Rd w MA (ints ma)) (hv : Rd w B (gs vb)) (hu : Rd w MB (ints mb)) (hf : fewB va.length ma.length = false) :
    Calls Tryd.prog 11 #[.agg #[.slice A va.length qa, .slice MA ma.length ra], .agg #[.slice B vb.length qb, .slice MB mb.length rb]] w fun r w' => r = .returned (.bool true) ∧ Below w.heap.size w w' := by
  have HFa := hide (fun W => fewLine_c A MA va.length ma.length qa ra W)
  have HFb := hide (fun W => fewLine_c B MB vb.length mb.length qb rb W)
  rw [hf] at HFa
  clear hf
  go_enter Tryd.func11, Tryd.ntmps11
  go_upto_region 1 with fail
  obtain ⟨W, hW⟩ : ∃ W, (w.alloc (.cells #[.slice A va.length qa, .slice MA ma.length ra] 89)).alloc (.cells #[.slice B vb.length qb, .slice MB mb.length rb] 89) = W := ⟨_, rfl⟩
  have hwW : Below w.heap.size w W := by rw [← hW]; exact (alloc_bel _ _).alloc (by simp) _
  have hX : Blk W w.heap.size 89 [.slice A va.length qa, .slice MA ma.length ra] := by rw [← hW]; exact (Blk.new w _ [_, _]).bel (alloc_bel _ _)
  have hY : Blk W (w.heap.size + 1) 89 [.slice B vb.length qb, .slice MB mb.length rb] := by rw [← hW]; exact Blk.new2 w 89 89 [.slice A va.length qa, .slice MA ma.length ra] [.slice B vb.length qb, .slice MB mb.length rb]
  rw [hW]
  clear hW
  obtain ⟨y, hy⟩ : ∃ y, w.heap.size + 1 = y := ⟨_, rfl⟩
  rw [hy] at hY ⊢
  clear hy
  have hTW := hT.bel hwW
  have hsW := hs.bel hwW
  have hrW := hr.bel hwW
  have hvW := hv.bel hwW
  have huW := hu.bel hwW
  have hxl := hX.lt
  have hyl := hY.lt
  have c0 := hX.cell 0; have c1 := hX.cell 1; simp only [List.getElem?_cons_zero, List.getElem?_cons_succ] at c0 c1
  have y0 := hY.cell 0; have y1 := hY.cell 1; simp only [List.getElem?_cons_zero, List.getElem?_cons_succ] at y0 y1
  clear hX hY hT hs hr hv hu
  go_wp2_with (first
    | (go_at_call 15; refine (awake_c _ hTW).mono ?_; rintro e w1 ⟨rfl, hb1⟩; have k1 := (kp hb1).1)
    | (go_at_call 66; have _g := hB2; refine (HFb.out _).mono ?_; rintro e w3 ⟨rfl, hb3⟩; have hB3 := bel_tr hB2 hB2.size hb3; have k3 := (kp hB3).1)
    | (go_at_call 66; refine (HFa.out _).mono ?_; rintro e w2 ⟨rfl, hb2⟩; have hB2 := bel_tr hb1 hb1.size hb2; have k2 := (kp hB2).1)
    )
  go_ret
  exact ⟨rfl, bel_tr hwW hwW.size hB2⟩

theorem combined_2 (A MA B MB : Option Addr) (qa ra qb rb : Nat) (va vb : List (Int × Int)) (ma mb : List Int) (w : World) (hT : Tab w) (hs : Rd w A (gs va)) (hr : Rd w MA (ints ma)) (hv : Rd w B (gs vb)) (hu : Rd w MB (ints mb)) (hf : fewB va.length ma.length = true) (hf2 : fewB vb.length mb.length = false) :
    Calls Tryd.prog 11 #[.agg #[.slice A va.length qa, .slice MA ma.length ra], .agg #[.slice B vb.length qb, .slice MB mb.length rb]] w fun r w' => r = .returned (.bool true) ∧ Below w.heap.size w w' := by
  have HFa := hide (fun W => fewLine_c A MA va.length ma.length qa ra W)
  have HFb := hide (fun W => fewLine_c B MB vb.length mb.length qb rb W)
  rw [hf] at HFa
  rw [hf2] at HFb
  clear hf hf2
  go_enter Tryd.func11, Tryd.ntmps11
  go_upto_region 1 with fail
  obtain ⟨W, hW⟩ : ∃ W, (w.alloc (.cells #[.slice A va.length qa, .slice MA ma.length ra] 89)).alloc (.cells #[.slice B vb.length qb, .slice MB mb.length rb] 89) = W := ⟨_, rfl⟩
  have hwW : Below w.heap.size w W := by rw [← hW]; exact (alloc_bel _ _).alloc (by simp) _
  have hX : Blk W w.heap.size 89 [.slice A va.length qa, .slice MA ma.length ra] := by rw [← hW]; exact (Blk.new w _ [_, _]).bel (alloc_bel _ _)
  have hY : Blk W (w.heap.size + 1) 89 [.slice B vb.length qb, .slice MB mb.length rb] := by rw [← hW]; exact Blk.new2 w 89 89 [.slice A va.length qa, .slice MA ma.length ra] [.slice B vb.length qb, .slice MB mb.length rb]
  rw [hW]
  clear hW
  obtain ⟨y, hy⟩ : ∃ y, w.heap.size + 1 = y := ⟨_, rfl⟩
  rw [hy] at hY ⊢
  clear hy
  have hTW := hT.bel hwW
  have hsW := hs.bel hwW
  have hrW := hr.bel hwW
  have hvW := hv.bel hwW
  have huW := hu.bel hwW
  have hxl := hX.lt
  have hyl := hY.lt
  have c0 := hX.cell 0; have c1 := hX.cell 1; simp only [List.getElem?_cons_zero, List.getElem?_cons_succ] at c0 c1
  have y0 := hY.cell 0; have y1 := hY.cell 1; simp only [List.getElem?_cons_zero, List.getElem?_cons_succ] at y0 y1
  clear hX hY hT hs hr hv hu
  go_wp2_with (first
    | (go_at_call 15; refine (awake_c _ hTW).mono ?_; rintro e w1 ⟨rfl, hb1⟩; have k1 := (kp hb1).1)
    | (go_at_call 66; have _g := hB2; refine (HFb.out _).mono ?_; rintro e w3 ⟨rfl, hb3⟩; have hB3 := bel_tr hB2 hB2.size hb3; have k3 := (kp hB3).1)
    | (go_at_call 66; refine (HFa.out _).mono ?_; rintro e w2 ⟨rfl, hb2⟩; have hB2 := bel_tr hb1 hb1.size hb2; have k2 := (kp hB2).1)
    )
  go_ret
  exact ⟨rfl, bel_tr hwW hwW.size hB3⟩

set_option maxHeartbeats 4000000 in
theorem combined_3 (A MA B MB : Option Addr) (qa ra qb rb : Nat) (va vb : List (Int × Int)) (ma mb : List Int) (w : World) (hT : Tab w) (hs : Rd w A (gs va)) (hr : Rd w MA (ints ma)) (hv : Rd w B (gs vb)) (hu : Rd w MB (ints mb)) (hf : fewB va.length ma.length = true) (hf2 : fewB vb.length mb.length = true) (h1 : lineE va ma ≠ 0) :
    Calls Tryd.prog 11 #[.agg #[.slice A va.length qa, .slice MA ma.length ra], .agg #[.slice B vb.length qb, .slice MB mb.length rb]] w fun r w' => r = .returned (.bool true) ∧ Below w.heap.size w w' := by
  have ha : va.length ≤ 70 ∧ ma.length ≤ 70 := by simpa [fewB] using hf
  have hb : vb.length ≤ 70 ∧ mb.length ≤ 70 := by simpa [fewB] using hf2
  have HFa := hide (fun W => fewLine_c A MA va.length ma.length qa ra W)
  have HFb := hide (fun W => fewLine_c B MB vb.length mb.length qb rb W)
  rw [hf] at HFa
  rw [hf2] at HFb
  have HCa := hide (fun W h1 h2 => copyLine_c A MA qa ra va ma W h1 h2 (by omega) (by omega))
  have HCb := hide (fun W h1 h2 => copyLine_c B MB qb rb vb mb W h1 h2 (by omega) (by omega))
  have HLa := hide (fun W h1 h2 => refLineErr_c A MA qa ra va ma W h1 h2 (by omega))
  have HLb := hide (fun W h1 h2 => refLineErr_c B MB qb rb vb mb W h1 h2 (by omega))
  have e0 : combE va vb ma mb = lineE va ma := by unfold combE firstE; rw [if_neg h1]
  have hE : combE va vb ma mb ≠ 0 := by rw [e0]; exact h1
  have HCO := hide (fun (V4 M4 V5 M5 : Option Addr) (e4 f4 e5 f5 : Nat) W h0 h1 h2 h3 => combined_err V4 M4 V5 M5 e4 f4 e5 f5 va vb ma mb W h0 h1 h2 h3 (by omega) (by omega) hE)
  have e1 : (lineE va ma == 0) = false := by simpa using h1
  rw [e0] at HCO
  clear hf hf2 hE e0 h1
  generalize lineE va ma = E at HCO HLa e1
  go_enter Tryd.func11, Tryd.ntmps11
  go_upto_region 1 with fail
  obtain ⟨W, hW⟩ : ∃ W, (w.alloc (.cells #[.slice A va.length qa, .slice MA ma.length ra] 89)).alloc (.cells #[.slice B vb.length qb, .slice MB mb.length rb] 89) = W := ⟨_, rfl⟩
  have hwW : Below w.heap.size w W := by rw [← hW]; exact (alloc_bel _ _).alloc (by simp) _
  have hX : Blk W w.heap.size 89 [.slice A va.length qa, .slice MA ma.length ra] := by rw [← hW]; exact (Blk.new w _ [_, _]).bel (alloc_bel _ _)
  have hY : Blk W (w.heap.size + 1) 89 [.slice B vb.length qb, .slice MB mb.length rb] := by rw [← hW]; exact Blk.new2 w 89 89 [.slice A va.length qa, .slice MA ma.length ra] [.slice B vb.length qb, .slice MB mb.length rb]
  rw [hW]
  clear hW
  obtain ⟨y, hy⟩ : ∃ y, w.heap.size + 1 = y := ⟨_, rfl⟩
  rw [hy] at hY ⊢
  clear hy
  have hTW := hT.bel hwW
  have hsW := hs.bel hwW
  have hrW := hr.bel hwW
  have hvW := hv.bel hwW
  have huW := hu.bel hwW
  have hxl := hX.lt
  have hyl := hY.lt
  have c0 := hX.cell 0; have c1 := hX.cell 1; simp only [List.getElem?_cons_zero, List.getElem?_cons_succ] at c0 c1
  have y0 := hY.cell 0; have y1 := hY.cell 1; simp only [List.getElem?_cons_zero, List.getElem?_cons_succ] at y0 y1
  clear hX hY hT hs hr hv hu
  go_upto_region 5 with (first
    | (go_at_call 15; refine (awake_c _ hTW).mono ?_; rintro e w1 ⟨rfl, hb1⟩; have k1 := (kp hb1).1)
    | (go_at_call 66; have _g := hB2; refine (HFb.out _).mono ?_; rintro e w3 ⟨rfl, hb3⟩; have hB3 := bel_tr hB2 hB2.size hb3; have k3 := (kp hB3).1)
    | (go_at_call 66; refine (HFa.out _).mono ?_; rintro e w2 ⟨rfl, hb2⟩; have hB2 := bel_tr hb1 hb1.size hb2; have k2 := (kp hB2).1)
    )
  have s3 := hB3.size
  go_cut [5, 6] from 19 to 26 (fun t5 t6 wx => ∃ L : Nat, t5 = .pointer (some ⟨L, 0, none⟩) ∧ t6 = .int .i64 E ∧ W.heap.size ≤ L ∧ Blk wx L 89 [.slice none 0 0, .slice none 0 0] ∧ Below W.heap.size W wx)
  case first =>
    go_region_held3 (fun w' => (∀ b o, b < W.heap.size → w'.cell? ⟨b, o, none⟩ = W.cell? ⟨b, o, none⟩) ∧ Below W.heap.size W w')
      ((refine kp ?_; (repeat' (first | with_reducible exact Below.refl _ _ | with_reducible exact HB6.out | with_reducible exact HB5.out | with_reducible exact HB4.out | with_reducible exact hB3 | with_reducible refine Below.drew ?_ | with_reducible refine bel_alloc ?_ ?_ _ | with_reducible refine Below.setCell ?_ ?_ _)); all_goals (first | omega | (simp <;> omega))))
      (first
        | (go_at_call 68; have _g := HB4; refine (HCb.out _ (hvW.bel (by (repeat' (first | with_reducible exact Below.refl _ _ | with_reducible exact HB6.out | with_reducible exact HB5.out | with_reducible exact HB4.out | with_reducible exact hB3 | with_reducible refine Below.drew ?_ | with_reducible refine bel_alloc ?_ ?_ _ | with_reducible refine Below.setCell ?_ ?_ _)); all_goals (first | omega | (simp <;> omega)))) (huW.bel (by (repeat' (first | with_reducible exact Below.refl _ _ | with_reducible exact HB6.out | with_reducible exact HB5.out | with_reducible exact HB4.out | with_reducible exact hB3 | with_reducible refine Below.drew ?_ | with_reducible refine bel_alloc ?_ ?_ _ | with_reducible refine Below.setCell ?_ ?_ _)); all_goals (first | omega | (simp <;> omega))))).mono ?_; rintro e w5 ⟨⟨V5, e5, M5, f5, rfl, hV5, hM5⟩, hb5⟩; have HB5 : Hid (Below W.heap.size W w5) := (by refine bel_tr ?_ ?_ hb5; (repeat' (first | with_reducible exact Below.refl _ _ | with_reducible exact HB6.out | with_reducible exact HB5.out | with_reducible exact HB4.out | with_reducible exact hB3 | with_reducible refine Below.drew ?_ | with_reducible refine bel_alloc ?_ ?_ _ | with_reducible refine Below.setCell ?_ ?_ _)); all_goals (first | omega | (simp <;> omega))); have s5 := HB5.out.size; have h45 : Below w4.heap.size w4 w5 := (by refine bel_tr ?_ ?_ hb5; (repeat' (first | with_reducible exact Below.refl _ _ | with_reducible refine Below.drew ?_ | with_reducible refine bel_alloc ?_ ?_ _)); all_goals (first | omega | (simp <;> omega))); have hV4a := hV4.bel h45; have hM4a := hM4.bel h45)
        | (go_at_call 68; refine (HCa.out _ (hsW.bel (by (repeat' (first | with_reducible exact Below.refl _ _ | with_reducible exact HB6.out | with_reducible exact HB5.out | with_reducible exact HB4.out | with_reducible exact hB3 | with_reducible refine Below.drew ?_ | with_reducible refine bel_alloc ?_ ?_ _ | with_reducible refine Below.setCell ?_ ?_ _)); all_goals (first | omega | (simp <;> omega)))) (hrW.bel (by (repeat' (first | with_reducible exact Below.refl _ _ | with_reducible exact HB6.out | with_reducible exact HB5.out | with_reducible exact HB4.out | with_reducible exact hB3 | with_reducible refine Below.drew ?_ | with_reducible refine bel_alloc ?_ ?_ _ | with_reducible refine Below.setCell ?_ ?_ _)); all_goals (first | omega | (simp <;> omega))))).mono ?_; rintro e w4 ⟨⟨V4, e4, M4, f4, rfl, hV4, hM4⟩, hb4⟩; have HB4 : Hid (Below W.heap.size W w4) := (by refine bel_tr ?_ ?_ hb4; (repeat' (first | with_reducible exact Below.refl _ _ | with_reducible exact HB6.out | with_reducible exact HB5.out | with_reducible exact HB4.out | with_reducible exact hB3 | with_reducible refine Below.drew ?_ | with_reducible refine bel_alloc ?_ ?_ _ | with_reducible refine Below.setCell ?_ ?_ _)); all_goals (first | omega | (simp <;> omega))); have s4 := HB4.out.size)
        | (go_at_call 67; refine (HCO.out V4 M4 V5 M5 e4 f4 e5 f5 _ (hV4a.bel (by (repeat' (first | with_reducible exact Below.refl _ _ | with_reducible refine Below.drew ?_ | with_reducible refine bel_alloc ?_ ?_ _)); all_goals (first | omega | (simp <;> omega)))).1 (hM4a.bel (by (repeat' (first | with_reducible exact Below.refl _ _ | with_reducible refine Below.drew ?_ | with_reducible refine bel_alloc ?_ ?_ _)); all_goals (first | omega | (simp <;> omega)))).1 (hV5.bel (by (repeat' (first | with_reducible exact Below.refl _ _ | with_reducible refine Below.drew ?_ | with_reducible refine bel_alloc ?_ ?_ _)); all_goals (first | omega | (simp <;> omega)))).1 (hM5.bel (by (repeat' (first | with_reducible exact Below.refl _ _ | with_reducible refine Below.drew ?_ | with_reducible refine bel_alloc ?_ ?_ _)); all_goals (first | omega | (simp <;> omega)))).1).mono ?_; rintro e w6 ⟨rfl, hb6⟩; have HB6 : Hid (Below W.heap.size W w6) := (by refine bel_tr ?_ ?_ hb6; (repeat' (first | with_reducible exact Below.refl _ _ | with_reducible exact HB6.out | with_reducible exact HB5.out | with_reducible exact HB4.out | with_reducible exact hB3 | with_reducible refine Below.drew ?_ | with_reducible refine bel_alloc ?_ ?_ _ | with_reducible refine Below.setCell ?_ ?_ _)); all_goals (first | omega | (simp <;> omega))); have s6 := HB6.out.size; (try (refine (have B3 : Blk w6 (w3.heap.size) 89 [.slice none 0 0, .slice none 0 0] := ?_; ?_); (focus ((repeat' (first | with_reducible exact Blk.new _ _ [_, _] | with_reducible refine Blk.dr ?_ | with_reducible refine Blk.bel ?_ (alloc_bel _ _) | with_reducible refine Blk.bel ?_ hb6 | with_reducible refine Blk.bel ?_ hb5 | with_reducible refine Blk.bel ?_ hb4)); done)); have c30 := B3.cell 0; have c31 := B3.cell 1; simp only [List.getElem?_cons_zero, List.getElem?_cons_succ] at c30 c31; have d30 := B3.frozen 0; have d31 := B3.frozen 1; clear B3)); (try (refine (have B4 : Blk w6 (w4.heap.size) 89 [.slice none 0 0, .slice none 0 0] := ?_; ?_); (focus ((repeat' (first | with_reducible exact Blk.new _ _ [_, _] | with_reducible refine Blk.dr ?_ | with_reducible refine Blk.bel ?_ (alloc_bel _ _) | with_reducible refine Blk.bel ?_ hb6 | with_reducible refine Blk.bel ?_ hb5 | with_reducible refine Blk.bel ?_ hb4)); done)); have c40 := B4.cell 0; have c41 := B4.cell 1; simp only [List.getElem?_cons_zero, List.getElem?_cons_succ] at c40 c41; have d40 := B4.frozen 0; have d41 := B4.frozen 1; clear B4)); (try (refine (have B5 : Blk w6 (w5.heap.size) 89 [.slice none 0 0, .slice none 0 0] := ?_; ?_); (focus ((repeat' (first | with_reducible exact Blk.new _ _ [_, _] | with_reducible refine Blk.dr ?_ | with_reducible refine Blk.bel ?_ (alloc_bel _ _) | with_reducible refine Blk.bel ?_ hb6 | with_reducible refine Blk.bel ?_ hb5 | with_reducible refine Blk.bel ?_ hb4)); done)); have c50 := B5.cell 0; have c51 := B5.cell 1; simp only [List.getElem?_cons_zero, List.getElem?_cons_succ] at c50 c51; have d50 := B5.frozen 0; have d51 := B5.frozen 1; clear B5))))
    all_goals
      go_wp2
      go_meet
      refine ⟨_, rfl, rfl, by first | omega | (simp <;> omega), ?_, ?_⟩
      · (repeat' (first | with_reducible exact Blk.new _ _ [_, _] | with_reducible refine Blk.set2 (a := .slice none 0 0) (b := .slice none 0 0) ?_ _ _ | with_reducible refine Blk.dr ?_ | with_reducible refine Blk.bel ?_ (alloc_bel _ _) | with_reducible refine Blk.bel ?_ hb6 | with_reducible refine Blk.bel ?_ hb5 | with_reducible refine Blk.bel ?_ hb4))
      · (repeat' (first | with_reducible exact Below.refl _ _ | with_reducible exact HB6.out | with_reducible exact HB5.out | with_reducible exact HB4.out | with_reducible exact hB3 | with_reducible refine Below.drew ?_ | with_reducible refine bel_alloc ?_ ?_ _ | with_reducible refine Below.setCell ?_ ?_ _)); all_goals (first | omega | (simp <;> omega))
  obtain ⟨L, rfl, rfl, hLW, hL7, hB7⟩ := hcut
  obtain ⟨w7, hw7⟩ : ∃ w7 : World, wc = w7 := ⟨_, rfl⟩
  rw [hw7] at hL7 hB7 ⊢
  clear hw7
  have k7 := (kp hB7).1
  have l0 := hL7.cell 0; have l1 := hL7.cell 1; simp only [List.getElem?_cons_zero, List.getElem?_cons_succ] at l0 l1
  go_wp2_with (first
    | (go_at_call 69; refine (HLa.out _ (hsW.bel hB7) (hrW.bel hB7)).mono ?_; rintro e w8 ⟨rfl, hb8⟩; have hB8 := bel_tr hB7 hB7.size hb8; have k8 := (kp hB8).1; have hL8 := hL7.bel hb8; have lt8 := hL8.lt; have l0 := hL8.cell 0; have l1 := hL8.cell 1; simp only [List.getElem?_cons_zero, List.getElem?_cons_succ] at l0 l1)
    | (go_at_call 64; refine (sameLine_c [] [] none none none none 0 0 0 0 0 0 _ rfl rfl (by omega) (by omega) (Rd.nil _ _) (Rd.nil _ _) (Rd.nil _ _) (Rd.nil _ _)).mono ?_; rintro e wE ⟨rfl, hbE⟩)
    )
  go_ret
  exact ⟨rfl, bel_tr hwW hwW.size (bel_tr (bel_alloc hB8 hB8.size _) (by have := hB8.size; simp; omega) hbE)⟩

set_option maxHeartbeats 4000000 in
theorem combined_4 (A MA B MB : Option Addr) (qa ra qb rb : Nat) (va vb : List (Int × Int)) (ma mb : List Int) (w : World) (hT : Tab w) (hs : Rd w A (gs va)) (hr : Rd w MA (ints ma)) (hv : Rd w B (gs vb)) (hu : Rd w MB (ints mb)) (hf : fewB va.length ma.length = true) (hf2 : fewB vb.length mb.length = true) (h1 : lineE va ma = 0) (h2 : lineE vb mb ≠ 0) :
    Calls Tryd.prog 11 #[.agg #[.slice A va.length qa, .slice MA ma.length ra], .agg #[.slice B vb.length qb, .slice MB mb.length rb]] w fun r w' => r = .returned (.bool true) ∧ Below w.heap.size w w' := by
  have ha : va.length ≤ 70 ∧ ma.length ≤ 70 := by simpa [fewB] using hf
  have hb : vb.length ≤ 70 ∧ mb.length ≤ 70 := by simpa [fewB] using hf2
  have HFa := hide (fun W => fewLine_c A MA va.length ma.length qa ra W)
  have HFb := hide (fun W => fewLine_c B MB vb.length mb.length qb rb W)
  rw [hf] at HFa
  rw [hf2] at HFb
  have HCa := hide (fun W h1 h2 => copyLine_c A MA qa ra va ma W h1 h2 (by omega) (by omega))
  have HCb := hide (fun W h1 h2 => copyLine_c B MB qb rb vb mb W h1 h2 (by omega) (by omega))
  have HLa := hide (fun W h1 h2 => refLineErr_c A MA qa ra va ma W h1 h2 (by omega))
  have HLb := hide (fun W h1 h2 => refLineErr_c B MB qb rb vb mb W h1 h2 (by omega))
  have e0 : combE va vb ma mb = lineE vb mb := by unfold combE firstE; rw [if_pos h1]; unfold firstE; rw [if_neg h2]
  have hE : combE va vb ma mb ≠ 0 := by rw [e0]; exact h2
  have HCO := hide (fun (V4 M4 V5 M5 : Option Addr) (e4 f4 e5 f5 : Nat) W h0 h1 h2 h3 => combined_err V4 M4 V5 M5 e4 f4 e5 f5 va vb ma mb W h0 h1 h2 h3 (by omega) (by omega) hE)
  have e1 : (lineE vb mb == 0) = false := by simpa using h2
  rw [e0] at HCO
  rw [h1] at HLa
  clear hf hf2 hE e0 h1 h2
  generalize lineE vb mb = E at HCO HLb e1
  go_enter Tryd.func11, Tryd.ntmps11
  go_upto_region 1 with fail
  obtain ⟨W, hW⟩ : ∃ W, (w.alloc (.cells #[.slice A va.length qa, .slice MA ma.length ra] 89)).alloc (.cells #[.slice B vb.length qb, .slice MB mb.length rb] 89) = W := ⟨_, rfl⟩
  have hwW : Below w.heap.size w W := by rw [← hW]; exact (alloc_bel _ _).alloc (by simp) _
  have hX : Blk W w.heap.size 89 [.slice A va.length qa, .slice MA ma.length ra] := by rw [← hW]; exact (Blk.new w _ [_, _]).bel (alloc_bel _ _)
  have hY : Blk W (w.heap.size + 1) 89 [.slice B vb.length qb, .slice MB mb.length rb] := by rw [← hW]; exact Blk.new2 w 89 89 [.slice A va.length qa, .slice MA ma.length ra] [.slice B vb.length qb, .slice MB mb.length rb]
  rw [hW]
  clear hW
  obtain ⟨y, hy⟩ : ∃ y, w.heap.size + 1 = y := ⟨_, rfl⟩
  rw [hy] at hY ⊢
  clear hy
  have hTW := hT.bel hwW
  have hsW := hs.bel hwW
  have hrW := hr.bel hwW
  have hvW := hv.bel hwW
  have huW := hu.bel hwW
  have hxl := hX.lt
  have hyl := hY.lt
  have c0 := hX.cell 0; have c1 := hX.cell 1; simp only [List.getElem?_cons_zero, List.getElem?_cons_succ] at c0 c1
  have y0 := hY.cell 0; have y1 := hY.cell 1; simp only [List.getElem?_cons_zero, List.getElem?_cons_succ] at y0 y1
  clear hX hY hT hs hr hv hu
  go_upto_region 5 with (first
    | (go_at_call 15; refine (awake_c _ hTW).mono ?_; rintro e w1 ⟨rfl, hb1⟩; have k1 := (kp hb1).1)
    | (go_at_call 66; have _g := hB2; refine (HFb.out _).mono ?_; rintro e w3 ⟨rfl, hb3⟩; have hB3 := bel_tr hB2 hB2.size hb3; have k3 := (kp hB3).1)
    | (go_at_call 66; refine (HFa.out _).mono ?_; rintro e w2 ⟨rfl, hb2⟩; have hB2 := bel_tr hb1 hb1.size hb2; have k2 := (kp hB2).1)
    )
  have s3 := hB3.size
  go_cut [5, 6] from 19 to 26 (fun t5 t6 wx => ∃ L : Nat, t5 = .pointer (some ⟨L, 0, none⟩) ∧ t6 = .int .i64 E ∧ W.heap.size ≤ L ∧ Blk wx L 89 [.slice none 0 0, .slice none 0 0] ∧ Below W.heap.size W wx)
  case first =>
    go_region_held3 (fun w' => (∀ b o, b < W.heap.size → w'.cell? ⟨b, o, none⟩ = W.cell? ⟨b, o, none⟩) ∧ Below W.heap.size W w')
      ((refine kp ?_; (repeat' (first | with_reducible exact Below.refl _ _ | with_reducible exact HB6.out | with_reducible exact HB5.out | with_reducible exact HB4.out | with_reducible exact hB3 | with_reducible refine Below.drew ?_ | with_reducible refine bel_alloc ?_ ?_ _ | with_reducible refine Below.setCell ?_ ?_ _)); all_goals (first | omega | (simp <;> omega))))
      (first
        | (go_at_call 68; have _g := HB4; refine (HCb.out _ (hvW.bel (by (repeat' (first | with_reducible exact Below.refl _ _ | with_reducible exact HB6.out | with_reducible exact HB5.out | with_reducible exact HB4.out | with_reducible exact hB3 | with_reducible refine Below.drew ?_ | with_reducible refine bel_alloc ?_ ?_ _ | with_reducible refine Below.setCell ?_ ?_ _)); all_goals (first | omega | (simp <;> omega)))) (huW.bel (by (repeat' (first | with_reducible exact Below.refl _ _ | with_reducible exact HB6.out | with_reducible exact HB5.out | with_reducible exact HB4.out | with_reducible exact hB3 | with_reducible refine Below.drew ?_ | with_reducible refine bel_alloc ?_ ?_ _ | with_reducible refine Below.setCell ?_ ?_ _)); all_goals (first | omega | (simp <;> omega))))).mono ?_; rintro e w5 ⟨⟨V5, e5, M5, f5, rfl, hV5, hM5⟩, hb5⟩; have HB5 : Hid (Below W.heap.size W w5) := (by refine bel_tr ?_ ?_ hb5; (repeat' (first | with_reducible exact Below.refl _ _ | with_reducible exact HB6.out | with_reducible exact HB5.out | with_reducible exact HB4.out | with_reducible exact hB3 | with_reducible refine Below.drew ?_ | with_reducible refine bel_alloc ?_ ?_ _ | with_reducible refine Below.setCell ?_ ?_ _)); all_goals (first | omega | (simp <;> omega))); have s5 := HB5.out.size; have h45 : Below w4.heap.size w4 w5 := (by refine bel_tr ?_ ?_ hb5; (repeat' (first | with_reducible exact Below.refl _ _ | with_reducible refine Below.drew ?_ | with_reducible refine bel_alloc ?_ ?_ _)); all_goals (first | omega | (simp <;> omega))); have hV4a := hV4.bel h45; have hM4a := hM4.bel h45)
        | (go_at_call 68; refine (HCa.out _ (hsW.bel (by (repeat' (first | with_reducible exact Below.refl _ _ | with_reducible exact HB6.out | with_reducible exact HB5.out | with_reducible exact HB4.out | with_reducible exact hB3 | with_reducible refine Below.drew ?_ | with_reducible refine bel_alloc ?_ ?_ _ | with_reducible refine Below.setCell ?_ ?_ _)); all_goals (first | omega | (simp <;> omega)))) (hrW.bel (by (repeat' (first | with_reducible exact Below.refl _ _ | with_reducible exact HB6.out | with_reducible exact HB5.out | with_reducible exact HB4.out | with_reducible exact hB3 | with_reducible refine Below.drew ?_ | with_reducible refine bel_alloc ?_ ?_ _ | with_reducible refine Below.setCell ?_ ?_ _)); all_goals (first | omega | (simp <;> omega))))).mono ?_; rintro e w4 ⟨⟨V4, e4, M4, f4, rfl, hV4, hM4⟩, hb4⟩; have HB4 : Hid (Below W.heap.size W w4) := (by refine bel_tr ?_ ?_ hb4; (repeat' (first | with_reducible exact Below.refl _ _ | with_reducible exact HB6.out | with_reducible exact HB5.out | with_reducible exact HB4.out | with_reducible exact hB3 | with_reducible refine Below.drew ?_ | with_reducible refine bel_alloc ?_ ?_ _ | with_reducible refine Below.setCell ?_ ?_ _)); all_goals (first | omega | (simp <;> omega))); have s4 := HB4.out.size)
        | (go_at_call 67; refine (HCO.out V4 M4 V5 M5 e4 f4 e5 f5 _ (hV4a.bel (by (repeat' (first | with_reducible exact Below.refl _ _ | with_reducible refine Below.drew ?_ | with_reducible refine bel_alloc ?_ ?_ _)); all_goals (first | omega | (simp <;> omega)))).1 (hM4a.bel (by (repeat' (first | with_reducible exact Below.refl _ _ | with_reducible refine Below.drew ?_ | with_reducible refine bel_alloc ?_ ?_ _)); all_goals (first | omega | (simp <;> omega)))).1 (hV5.bel (by (repeat' (first | with_reducible exact Below.refl _ _ | with_reducible refine Below.drew ?_ | with_reducible refine bel_alloc ?_ ?_ _)); all_goals (first | omega | (simp <;> omega)))).1 (hM5.bel (by (repeat' (first | with_reducible exact Below.refl _ _ | with_reducible refine Below.drew ?_ | with_reducible refine bel_alloc ?_ ?_ _)); all_goals (first | omega | (simp <;> omega)))).1).mono ?_; rintro e w6 ⟨rfl, hb6⟩; have HB6 : Hid (Below W.heap.size W w6) := (by refine bel_tr ?_ ?_ hb6; (repeat' (first | with_reducible exact Below.refl _ _ | with_reducible exact HB6.out | with_reducible exact HB5.out | with_reducible exact HB4.out | with_reducible exact hB3 | with_reducible refine Below.drew ?_ | with_reducible refine bel_alloc ?_ ?_ _ | with_reducible refine Below.setCell ?_ ?_ _)); all_goals (first | omega | (simp <;> omega))); have s6 := HB6.out.size; (try (refine (have B3 : Blk w6 (w3.heap.size) 89 [.slice none 0 0, .slice none 0 0] := ?_; ?_); (focus ((repeat' (first | with_reducible exact Blk.new _ _ [_, _] | with_reducible refine Blk.dr ?_ | with_reducible refine Blk.bel ?_ (alloc_bel _ _) | with_reducible refine Blk.bel ?_ hb6 | with_reducible refine Blk.bel ?_ hb5 | with_reducible refine Blk.bel ?_ hb4)); done)); have c30 := B3.cell 0; have c31 := B3.cell 1; simp only [List.getElem?_cons_zero, List.getElem?_cons_succ] at c30 c31; have d30 := B3.frozen 0; have d31 := B3.frozen 1; clear B3)); (try (refine (have B4 : Blk w6 (w4.heap.size) 89 [.slice none 0 0, .slice none 0 0] := ?_; ?_); (focus ((repeat' (first | with_reducible exact Blk.new _ _ [_, _] | with_reducible refine Blk.dr ?_ | with_reducible refine Blk.bel ?_ (alloc_bel _ _) | with_reducible refine Blk.bel ?_ hb6 | with_reducible refine Blk.bel ?_ hb5 | with_reducible refine Blk.bel ?_ hb4)); done)); have c40 := B4.cell 0; have c41 := B4.cell 1; simp only [List.getElem?_cons_zero, List.getElem?_cons_succ] at c40 c41; have d40 := B4.frozen 0; have d41 := B4.frozen 1; clear B4)); (try (refine (have B5 : Blk w6 (w5.heap.size) 89 [.slice none 0 0, .slice none 0 0] := ?_; ?_); (focus ((repeat' (first | with_reducible exact Blk.new _ _ [_, _] | with_reducible refine Blk.dr ?_ | with_reducible refine Blk.bel ?_ (alloc_bel _ _) | with_reducible refine Blk.bel ?_ hb6 | with_reducible refine Blk.bel ?_ hb5 | with_reducible refine Blk.bel ?_ hb4)); done)); have c50 := B5.cell 0; have c51 := B5.cell 1; simp only [List.getElem?_cons_zero, List.getElem?_cons_succ] at c50 c51; have d50 := B5.frozen 0; have d51 := B5.frozen 1; clear B5))))
    all_goals
      go_wp2
      go_meet
      refine ⟨_, rfl, rfl, by first | omega | (simp <;> omega), ?_, ?_⟩
      · (repeat' (first | with_reducible exact Blk.new _ _ [_, _] | with_reducible refine Blk.set2 (a := .slice none 0 0) (b := .slice none 0 0) ?_ _ _ | with_reducible refine Blk.dr ?_ | with_reducible refine Blk.bel ?_ (alloc_bel _ _) | with_reducible refine Blk.bel ?_ hb6 | with_reducible refine Blk.bel ?_ hb5 | with_reducible refine Blk.bel ?_ hb4))
      · (repeat' (first | with_reducible exact Below.refl _ _ | with_reducible exact HB6.out | with_reducible exact HB5.out | with_reducible exact HB4.out | with_reducible exact hB3 | with_reducible refine Below.drew ?_ | with_reducible refine bel_alloc ?_ ?_ _ | with_reducible refine Below.setCell ?_ ?_ _)); all_goals (first | omega | (simp <;> omega))
  obtain ⟨L, rfl, rfl, hLW, hL7, hB7⟩ := hcut
  obtain ⟨w7, hw7⟩ : ∃ w7 : World, wc = w7 := ⟨_, rfl⟩
  rw [hw7] at hL7 hB7 ⊢
  clear hw7
  have k7 := (kp hB7).1
  have l0 := hL7.cell 0; have l1 := hL7.cell 1; simp only [List.getElem?_cons_zero, List.getElem?_cons_succ] at l0 l1
  go_wp2_with (first
    | (go_at_call 69; have _g := hB8; refine (HLb.out _ (hvW.bel hB8) (huW.bel hB8)).mono ?_; rintro e w9 ⟨rfl, hb9⟩; have hB9 := bel_tr hB8 hB8.size hb9; have k9 := (kp hB9).1; have hL9 := hL8.bel hb9; have lt9 := hL9.lt; have l0 := hL9.cell 0; have l1 := hL9.cell 1; simp only [List.getElem?_cons_zero, List.getElem?_cons_succ] at l0 l1)
    | (go_at_call 69; refine (HLa.out _ (hsW.bel hB7) (hrW.bel hB7)).mono ?_; rintro e w8 ⟨rfl, hb8⟩; have hB8 := bel_tr hB7 hB7.size hb8; have k8 := (kp hB8).1; have hL8 := hL7.bel hb8; have lt8 := hL8.lt; have l0 := hL8.cell 0; have l1 := hL8.cell 1; simp only [List.getElem?_cons_zero, List.getElem?_cons_succ] at l0 l1)
    | (go_at_call 64; refine (sameLine_c [] [] none none none none 0 0 0 0 0 0 _ rfl rfl (by omega) (by omega) (Rd.nil _ _) (Rd.nil _ _) (Rd.nil _ _) (Rd.nil _ _)).mono ?_; rintro e wE ⟨rfl, hbE⟩)
    )
  go_ret
  exact ⟨rfl, bel_tr hwW hwW.size (bel_tr (bel_alloc hB9 hB9.size _) (by have := hB9.size; simp; omega) hbE)⟩

set_option maxHeartbeats 4000000 in
theorem combined_5 (A MA B MB : Option Addr) (qa ra qb rb : Nat) (va vb : List (Int × Int)) (ma mb : List Int) (w : World) (hT : Tab w) (hs : Rd w A (gs va)) (hr : Rd w MA (ints ma)) (hv : Rd w B (gs vb)) (hu : Rd w MB (ints mb)) (hf : fewB va.length ma.length = true) (hf2 : fewB vb.length mb.length = true) (h1 : lineE va ma = 0) (h2 : lineE vb mb = 0) (h3 : va.length ≠ vb.length) :
    Calls Tryd.prog 11 #[.agg #[.slice A va.length qa, .slice MA ma.length ra], .agg #[.slice B vb.length qb, .slice MB mb.length rb]] w fun r w' => r = .returned (.bool true) ∧ Below w.heap.size w w' := by
  have ha : va.length ≤ 70 ∧ ma.length ≤ 70 := by simpa [fewB] using hf
  have hb : vb.length ≤ 70 ∧ mb.length ≤ 70 := by simpa [fewB] using hf2
  have HFa := hide (fun W => fewLine_c A MA va.length ma.length qa ra W)
  have HFb := hide (fun W => fewLine_c B MB vb.length mb.length qb rb W)
  rw [hf] at HFa
  rw [hf2] at HFb
  have HCa := hide (fun W h1 h2 => copyLine_c A MA qa ra va ma W h1 h2 (by omega) (by omega))
  have HCb := hide (fun W h1 h2 => copyLine_c B MB qb rb vb mb W h1 h2 (by omega) (by omega))
  have HLa := hide (fun W h1 h2 => refLineErr_c A MA qa ra va ma W h1 h2 (by omega))
  have HLb := hide (fun W h1 h2 => refLineErr_c B MB qb rb vb mb W h1 h2 (by omega))
  have hE : combE va vb ma mb = 13 := by
    have e : ((va.length : Int) != vb.length) = true := by simp; omega
    unfold combE firstE; rw [if_pos h1]; unfold firstE; rw [if_pos h2, e]; rfl
  have HCO := hide (fun (V4 M4 V5 M5 : Option Addr) (e4 f4 e5 f5 : Nat) W h0 h1 h2 h3 => combined_err V4 M4 V5 M5 e4 f4 e5 f5 va vb ma mb W h0 h1 h2 h3 (by omega) (by omega) (by rw [hE]; decide))
  rw [hE] at HCO
  rw [h1] at HLa
  rw [h2] at HLb
  have HRK := hide (fun W => refCombined_err A MA B MB qa ra qb rb va vb ma.length mb.length W h3)
  clear hf hf2 hE h1 h2 h3
  go_enter Tryd.func11, Tryd.ntmps11
  go_upto_region 1 with fail
  obtain ⟨W, hW⟩ : ∃ W, (w.alloc (.cells #[.slice A va.length qa, .slice MA ma.length ra] 89)).alloc (.cells #[.slice B vb.length qb, .slice MB mb.length rb] 89) = W := ⟨_, rfl⟩
  have hwW : Below w.heap.size w W := by rw [← hW]; exact (alloc_bel _ _).alloc (by simp) _
  have hX : Blk W w.heap.size 89 [.slice A va.length qa, .slice MA ma.length ra] := by rw [← hW]; exact (Blk.new w _ [_, _]).bel (alloc_bel _ _)
  have hY : Blk W (w.heap.size + 1) 89 [.slice B vb.length qb, .slice MB mb.length rb] := by rw [← hW]; exact Blk.new2 w 89 89 [.slice A va.length qa, .slice MA ma.length ra] [.slice B vb.length qb, .slice MB mb.length rb]
  rw [hW]
  clear hW
  obtain ⟨y, hy⟩ : ∃ y, w.heap.size + 1 = y := ⟨_, rfl⟩
  rw [hy] at hY ⊢
  clear hy
  have hTW := hT.bel hwW
  have hsW := hs.bel hwW
  have hrW := hr.bel hwW
  have hvW := hv.bel hwW
  have huW := hu.bel hwW
  have hxl := hX.lt
  have hyl := hY.lt
  have c0 := hX.cell 0; have c1 := hX.cell 1; simp only [List.getElem?_cons_zero, List.getElem?_cons_succ] at c0 c1
  have y0 := hY.cell 0; have y1 := hY.cell 1; simp only [List.getElem?_cons_zero, List.getElem?_cons_succ] at y0 y1
  clear hX hY hT hs hr hv hu
  go_upto_region 5 with (first
    | (go_at_call 15; refine (awake_c _ hTW).mono ?_; rintro e w1 ⟨rfl, hb1⟩; have k1 := (kp hb1).1)
    | (go_at_call 66; have _g := hB2; refine (HFb.out _).mono ?_; rintro e w3 ⟨rfl, hb3⟩; have hB3 := bel_tr hB2 hB2.size hb3; have k3 := (kp hB3).1)
    | (go_at_call 66; refine (HFa.out _).mono ?_; rintro e w2 ⟨rfl, hb2⟩; have hB2 := bel_tr hb1 hb1.size hb2; have k2 := (kp hB2).1)
    )
  have s3 := hB3.size
  go_cut [5, 6] from 19 to 26 (fun t5 t6 wx => ∃ L : Nat, t5 = .pointer (some ⟨L, 0, none⟩) ∧ t6 = .int .i64 13 ∧ W.heap.size ≤ L ∧ Blk wx L 89 [.slice none 0 0, .slice none 0 0] ∧ Below W.heap.size W wx)
  case first =>
    go_region_held3 (fun w' => (∀ b o, b < W.heap.size → w'.cell? ⟨b, o, none⟩ = W.cell? ⟨b, o, none⟩) ∧ Below W.heap.size W w')
      ((refine kp ?_; (repeat' (first | with_reducible exact Below.refl _ _ | with_reducible exact HB6.out | with_reducible exact HB5.out | with_reducible exact HB4.out | with_reducible exact hB3 | with_reducible refine Below.drew ?_ | with_reducible refine bel_alloc ?_ ?_ _ | with_reducible refine Below.setCell ?_ ?_ _)); all_goals (first | omega | (simp <;> omega))))
      (first
        | (go_at_call 68; have _g := HB4; refine (HCb.out _ (hvW.bel (by (repeat' (first | with_reducible exact Below.refl _ _ | with_reducible exact HB6.out | with_reducible exact HB5.out | with_reducible exact HB4.out | with_reducible exact hB3 | with_reducible refine Below.drew ?_ | with_reducible refine bel_alloc ?_ ?_ _ | with_reducible refine Below.setCell ?_ ?_ _)); all_goals (first | omega | (simp <;> omega)))) (huW.bel (by (repeat' (first | with_reducible exact Below.refl _ _ | with_reducible exact HB6.out | with_reducible exact HB5.out | with_reducible exact HB4.out | with_reducible exact hB3 | with_reducible refine Below.drew ?_ | with_reducible refine bel_alloc ?_ ?_ _ | with_reducible refine Below.setCell ?_ ?_ _)); all_goals (first | omega | (simp <;> omega))))).mono ?_; rintro e w5 ⟨⟨V5, e5, M5, f5, rfl, hV5, hM5⟩, hb5⟩; have HB5 : Hid (Below W.heap.size W w5) := (by refine bel_tr ?_ ?_ hb5; (repeat' (first | with_reducible exact Below.refl _ _ | with_reducible exact HB6.out | with_reducible exact HB5.out | with_reducible exact HB4.out | with_reducible exact hB3 | with_reducible refine Below.drew ?_ | with_reducible refine bel_alloc ?_ ?_ _ | with_reducible refine Below.setCell ?_ ?_ _)); all_goals (first | omega | (simp <;> omega))); have s5 := HB5.out.size; have h45 : Below w4.heap.size w4 w5 := (by refine bel_tr ?_ ?_ hb5; (repeat' (first | with_reducible exact Below.refl _ _ | with_reducible refine Below.drew ?_ | with_reducible refine bel_alloc ?_ ?_ _)); all_goals (first | omega | (simp <;> omega))); have hV4a := hV4.bel h45; have hM4a := hM4.bel h45)
        | (go_at_call 68; refine (HCa.out _ (hsW.bel (by (repeat' (first | with_reducible exact Below.refl _ _ | with_reducible exact HB6.out | with_reducible exact HB5.out | with_reducible exact HB4.out | with_reducible exact hB3 | with_reducible refine Below.drew ?_ | with_reducible refine bel_alloc ?_ ?_ _ | with_reducible refine Below.setCell ?_ ?_ _)); all_goals (first | omega | (simp <;> omega)))) (hrW.bel (by (repeat' (first | with_reducible exact Below.refl _ _ | with_reducible exact HB6.out | with_reducible exact HB5.out | with_reducible exact HB4.out | with_reducible exact hB3 | with_reducible refine Below.drew ?_ | with_reducible refine bel_alloc ?_ ?_ _ | with_reducible refine Below.setCell ?_ ?_ _)); all_goals (first | omega | (simp <;> omega))))).mono ?_; rintro e w4 ⟨⟨V4, e4, M4, f4, rfl, hV4, hM4⟩, hb4⟩; have HB4 : Hid (Below W.heap.size W w4) := (by refine bel_tr ?_ ?_ hb4; (repeat' (first | with_reducible exact Below.refl _ _ | with_reducible exact HB6.out | with_reducible exact HB5.out | with_reducible exact HB4.out | with_reducible exact hB3 | with_reducible refine Below.drew ?_ | with_reducible refine bel_alloc ?_ ?_ _ | with_reducible refine Below.setCell ?_ ?_ _)); all_goals (first | omega | (simp <;> omega))); have s4 := HB4.out.size)
        | (go_at_call 67; refine (HCO.out V4 M4 V5 M5 e4 f4 e5 f5 _ (hV4a.bel (by (repeat' (first | with_reducible exact Below.refl _ _ | with_reducible refine Below.drew ?_ | with_reducible refine bel_alloc ?_ ?_ _)); all_goals (first | omega | (simp <;> omega)))).1 (hM4a.bel (by (repeat' (first | with_reducible exact Below.refl _ _ | with_reducible refine Below.drew ?_ | with_reducible refine bel_alloc ?_ ?_ _)); all_goals (first | omega | (simp <;> omega)))).1 (hV5.bel (by (repeat' (first | with_reducible exact Below.refl _ _ | with_reducible refine Below.drew ?_ | with_reducible refine bel_alloc ?_ ?_ _)); all_goals (first | omega | (simp <;> omega)))).1 (hM5.bel (by (repeat' (first | with_reducible exact Below.refl _ _ | with_reducible refine Below.drew ?_ | with_reducible refine bel_alloc ?_ ?_ _)); all_goals (first | omega | (simp <;> omega)))).1).mono ?_; rintro e w6 ⟨rfl, hb6⟩; have HB6 : Hid (Below W.heap.size W w6) := (by refine bel_tr ?_ ?_ hb6; (repeat' (first | with_reducible exact Below.refl _ _ | with_reducible exact HB6.out | with_reducible exact HB5.out | with_reducible exact HB4.out | with_reducible exact hB3 | with_reducible refine Below.drew ?_ | with_reducible refine bel_alloc ?_ ?_ _ | with_reducible refine Below.setCell ?_ ?_ _)); all_goals (first | omega | (simp <;> omega))); have s6 := HB6.out.size; (try (refine (have B3 : Blk w6 (w3.heap.size) 89 [.slice none 0 0, .slice none 0 0] := ?_; ?_); (focus ((repeat' (first | with_reducible exact Blk.new _ _ [_, _] | with_reducible refine Blk.dr ?_ | with_reducible refine Blk.bel ?_ (alloc_bel _ _) | with_reducible refine Blk.bel ?_ hb6 | with_reducible refine Blk.bel ?_ hb5 | with_reducible refine Blk.bel ?_ hb4)); done)); have c30 := B3.cell 0; have c31 := B3.cell 1; simp only [List.getElem?_cons_zero, List.getElem?_cons_succ] at c30 c31; have d30 := B3.frozen 0; have d31 := B3.frozen 1; clear B3)); (try (refine (have B4 : Blk w6 (w4.heap.size) 89 [.slice none 0 0, .slice none 0 0] := ?_; ?_); (focus ((repeat' (first | with_reducible exact Blk.new _ _ [_, _] | with_reducible refine Blk.dr ?_ | with_reducible refine Blk.bel ?_ (alloc_bel _ _) | with_reducible refine Blk.bel ?_ hb6 | with_reducible refine Blk.bel ?_ hb5 | with_reducible refine Blk.bel ?_ hb4)); done)); have c40 := B4.cell 0; have c41 := B4.cell 1; simp only [List.getElem?_cons_zero, List.getElem?_cons_succ] at c40 c41; have d40 := B4.frozen 0; have d41 := B4.frozen 1; clear B4)); (try (refine (have B5 : Blk w6 (w5.heap.size) 89 [.slice none 0 0, .slice none 0 0] := ?_; ?_); (focus ((repeat' (first | with_reducible exact Blk.new _ _ [_, _] | with_reducible refine Blk.dr ?_ | with_reducible refine Blk.bel ?_ (alloc_bel _ _) | with_reducible refine Blk.bel ?_ hb6 | with_reducible refine Blk.bel ?_ hb5 | with_reducible refine Blk.bel ?_ hb4)); done)); have c50 := B5.cell 0; have c51 := B5.cell 1; simp only [List.getElem?_cons_zero, List.getElem?_cons_succ] at c50 c51; have d50 := B5.frozen 0; have d51 := B5.frozen 1; clear B5))))
    all_goals
      go_wp2
      go_meet
      refine ⟨_, rfl, rfl, by first | omega | (simp <;> omega), ?_, ?_⟩
      · (repeat' (first | with_reducible exact Blk.new _ _ [_, _] | with_reducible refine Blk.set2 (a := .slice none 0 0) (b := .slice none 0 0) ?_ _ _ | with_reducible refine Blk.dr ?_ | with_reducible refine Blk.bel ?_ (alloc_bel _ _) | with_reducible refine Blk.bel ?_ hb6 | with_reducible refine Blk.bel ?_ hb5 | with_reducible refine Blk.bel ?_ hb4))
      · (repeat' (first | with_reducible exact Below.refl _ _ | with_reducible exact HB6.out | with_reducible exact HB5.out | with_reducible exact HB4.out | with_reducible exact hB3 | with_reducible refine Below.drew ?_ | with_reducible refine bel_alloc ?_ ?_ _ | with_reducible refine Below.setCell ?_ ?_ _)); all_goals (first | omega | (simp <;> omega))
  obtain ⟨L, rfl, rfl, hLW, hL7, hB7⟩ := hcut
  obtain ⟨w7, hw7⟩ : ∃ w7 : World, wc = w7 := ⟨_, rfl⟩
  rw [hw7] at hL7 hB7 ⊢
  clear hw7
  have k7 := (kp hB7).1
  have l0 := hL7.cell 0; have l1 := hL7.cell 1; simp only [List.getElem?_cons_zero, List.getElem?_cons_succ] at l0 l1
  go_upto_region 11 with (first
    | (go_at_call 69; have _g := hB8; refine (HLb.out _ (hvW.bel hB8) (huW.bel hB8)).mono ?_; rintro e w9 ⟨rfl, hb9⟩; have hB9 := bel_tr hB8 hB8.size hb9; have k9 := (kp hB9).1; have hL9 := hL8.bel hb9; have lt9 := hL9.lt; have l0 := hL9.cell 0; have l1 := hL9.cell 1; simp only [List.getElem?_cons_zero, List.getElem?_cons_succ] at l0 l1)
    | (go_at_call 69; refine (HLa.out _ (hsW.bel hB7) (hrW.bel hB7)).mono ?_; rintro e w8 ⟨rfl, hb8⟩; have hB8 := bel_tr hB7 hB7.size hb8; have k8 := (kp hB8).1; have hL8 := hL7.bel hb8; have lt8 := hL8.lt; have l0 := hL8.cell 0; have l1 := hL8.cell 1; simp only [List.getElem?_cons_zero, List.getElem?_cons_succ] at l0 l1)
    )
  obtain ⟨w10, hw10⟩ : ∃ w10, w9.alloc (.cells #[.slice none 0 0, .slice none 0 0] 89) = w10 := ⟨_, rfl⟩
  have hZ : Blk w10 w9.heap.size 89 [.slice none 0 0, .slice none 0 0] := by rw [← hw10]; exact Blk.new w9 _ [_, _]
  have hB10 : Below W.heap.size W w10 := by rw [← hw10]; exact bel_alloc hB9 hB9.size _
  have h910 : Below w9.heap.size w9 w10 := by rw [← hw10]; exact alloc_bel _ _
  have hL10 := hL9.bel h910
  rw [hw10]
  clear hw10
  obtain ⟨Z, hZ0⟩ : ∃ Z, w9.heap.size = Z := ⟨_, rfl⟩
  rw [hZ0] at hZ ⊢
  have hLZ : L ≠ Z := by have := hL9.lt; omega
  have hWZ : W.heap.size ≤ Z := by have := hB9.size; omega
  have k10 := (kp hB10).1
  clear l0 l1 lt8 lt9 hZ0
  go_upto_region 12 with (first
    | (go_at_call 70; refine (HRK.out _).mono ?_; rintro e w11 ⟨rfl, hb11⟩; have hB11 := bel_tr hB10 hB10.size hb11; have hZ11 := hZ.bel hb11; have f0 := hZ11.frozen 0; have f1 := hZ11.frozen 1; have z0 := hZ11.cell 0; have z1 := hZ11.cell 1; simp only [List.getElem?_cons_zero, List.getElem?_cons_succ] at z0 z1))
  obtain ⟨w12, hw12⟩ : ∃ w12, (w11.setCell ⟨Z, 0, none⟩ (.slice none 0 0)).setCell ⟨Z, 1, none⟩ (.slice none 0 0) = w12 := ⟨_, rfl⟩
  have hZ12 : Blk w12 Z 89 [(.slice none 0 0), (.slice none 0 0)] := by rw [← hw12]; exact hZ11.set2 _ _
  have hL12 := ((hL10.bel hb11).far (p := ⟨Z, 0, none⟩) hLZ (.slice none 0 0)).far (p := ⟨Z, 1, none⟩) hLZ (.slice none 0 0)
  have hB12 : Below W.heap.size W w12 := by rw [← hw12]; exact (hB11.setCell (p := ⟨Z, 0, none⟩) hWZ _).setCell (p := ⟨Z, 1, none⟩) hWZ _
  rw [hw12] at hL12 ⊢
  have z0 := hZ12.cell 0; have z1 := hZ12.cell 1; simp only [List.getElem?_cons_zero, List.getElem?_cons_succ] at z0 z1
  have l0 := hL12.cell 0; have l1 := hL12.cell 1; simp only [List.getElem?_cons_zero, List.getElem?_cons_succ] at l0 l1
  go_wp2_with (first
    | (go_at_call 64; refine (sameLine_c [] [] none none none none 0 0 0 0 0 0 _ rfl rfl (by omega) (by omega) (Rd.nil _ _) (Rd.nil _ _) (Rd.nil _ _) (Rd.nil _ _)).mono ?_; rintro e wE ⟨rfl, hbE⟩)
    )
  go_ret
  exact ⟨rfl, bel_tr hwW hwW.size (bel_tr hB12 hB12.size hbE)⟩

set_option maxHeartbeats 4000000 in
theorem combined_6 (A MA B MB : Option Addr) (qa ra qb rb : Nat) (va vb : List (Int × Int)) (ma mb : List Int) (w : World) (hT : Tab w) (hs : Rd w A (gs va)) (hr : Rd w MA (ints ma)) (hv : Rd w B (gs vb)) (hu : Rd w MB (ints mb)) (hf : fewB va.length ma.length = true) (hf2 : fewB vb.length mb.length = true) (h1 : lineE va ma = 0) (h2 : lineE vb mb = 0) (h3 : va.length = vb.length) (h4 : bigB va vb ma mb va.length = true) :
    Calls Tryd.prog 11 #[.agg #[.slice A va.length qa, .slice MA ma.length ra], .agg #[.slice B vb.length qb, .slice MB mb.length rb]] w fun r w' => r = .returned (.bool true) ∧ Below w.heap.size w w' := by
  have ha : va.length ≤ 70 ∧ ma.length ≤ 70 := by simpa [fewB] using hf
  have hb : vb.length ≤ 70 ∧ mb.length ≤ 70 := by simpa [fewB] using hf2
  have HFa := hide (fun W => fewLine_c A MA va.length ma.length qa ra W)
  have HFb := hide (fun W => fewLine_c B MB vb.length mb.length qb rb W)
  rw [hf] at HFa
  rw [hf2] at HFb
  have HCa := hide (fun W h1 h2 => copyLine_c A MA qa ra va ma W h1 h2 (by omega) (by omega))
  have HCb := hide (fun W h1 h2 => copyLine_c B MB qb rb vb mb W h1 h2 (by omega) (by omega))
  have HLa := hide (fun W h1 h2 => refLineErr_c A MA qa ra va ma W h1 h2 (by omega))
  have HLb := hide (fun W h1 h2 => refLineErr_c B MB qb rb vb mb W h1 h2 (by omega))
  have hE : combE va vb ma mb = 0 := by
    have e : ((va.length : Int) != vb.length) = false := by simp; omega
    unfold combE firstE; rw [if_pos h1]; unfold firstE; rw [if_pos h2, e]; rfl
  have HCO := hide (fun (V4 M4 V5 M5 : Option Addr) (e4 f4 e5 f5 : Nat) W q0 q1 q2 q3 => (combined_sum V4 M4 V5 M5 e4 f4 e5 f5 va vb ma mb W q0 q1 q2 q3 (by omega) (by omega) hE).mono (fun r w' (h : _ ∧ _) => show r = .returned (.tuple #[.agg #[.slice none 0 0, .slice none 0 0], .int .i64 8]) ∧ Below W.heap.size W w' from ⟨(by rcases h.1 with ⟨_, h⟩ | ⟨h, _⟩; exact h; rw [h4] at h; cases h), h.2⟩))
  have HRK := hide (fun W q0 q1 q2 q3 => (refCombined_sum A MA B MB qa ra qb rb va vb ma mb W q0 q1 q2 q3 h1 h2 h3).mono (fun r w' (h : _ ∧ _) => show r = .returned (.tuple #[.agg #[.slice none 0 0, .slice none 0 0], .int .i64 8]) ∧ Below W.heap.size W w' from ⟨(by rcases h.1 with ⟨_, h⟩ | ⟨h, _⟩; exact h; rw [h4] at h; cases h), h.2⟩))
  rw [h1] at HLa
  rw [h2] at HLb
  clear hf hf2 hE h1 h2 h3 h4
  go_enter Tryd.func11, Tryd.ntmps11
  go_upto_region 1 with fail
  obtain ⟨W, hW⟩ : ∃ W, (w.alloc (.cells #[.slice A va.length qa, .slice MA ma.length ra] 89)).alloc (.cells #[.slice B vb.length qb, .slice MB mb.length rb] 89) = W := ⟨_, rfl⟩
  have hwW : Below w.heap.size w W := by rw [← hW]; exact (alloc_bel _ _).alloc (by simp) _
  have hX : Blk W w.heap.size 89 [.slice A va.length qa, .slice MA ma.length ra] := by rw [← hW]; exact (Blk.new w _ [_, _]).bel (alloc_bel _ _)
  have hY : Blk W (w.heap.size + 1) 89 [.slice B vb.length qb, .slice MB mb.length rb] := by rw [← hW]; exact Blk.new2 w 89 89 [.slice A va.length qa, .slice MA ma.length ra] [.slice B vb.length qb, .slice MB mb.length rb]
  rw [hW]
  clear hW
  obtain ⟨y, hy⟩ : ∃ y, w.heap.size + 1 = y := ⟨_, rfl⟩
  rw [hy] at hY ⊢
  clear hy
  have hTW := hT.bel hwW
  have hsW := hs.bel hwW
  have hrW := hr.bel hwW
  have hvW := hv.bel hwW
  have huW := hu.bel hwW
  have hxl := hX.lt
  have hyl := hY.lt
  have c0 := hX.cell 0; have c1 := hX.cell 1; simp only [List.getElem?_cons_zero, List.getElem?_cons_succ] at c0 c1
  have y0 := hY.cell 0; have y1 := hY.cell 1; simp only [List.getElem?_cons_zero, List.getElem?_cons_succ] at y0 y1
  clear hX hY hT hs hr hv hu
  go_upto_region 5 with (first
    | (go_at_call 15; refine (awake_c _ hTW).mono ?_; rintro e w1 ⟨rfl, hb1⟩; have k1 := (kp hb1).1)
    | (go_at_call 66; have _g := hB2; refine (HFb.out _).mono ?_; rintro e w3 ⟨rfl, hb3⟩; have hB3 := bel_tr hB2 hB2.size hb3; have k3 := (kp hB3).1)
    | (go_at_call 66; refine (HFa.out _).mono ?_; rintro e w2 ⟨rfl, hb2⟩; have hB2 := bel_tr hb1 hb1.size hb2; have k2 := (kp hB2).1)
    )
  have s3 := hB3.size
  go_cut [5, 6] from 19 to 26 (fun t5 t6 wx => ∃ L : Nat, t5 = .pointer (some ⟨L, 0, none⟩) ∧ t6 = .int .i64 8 ∧ W.heap.size ≤ L ∧ Blk wx L 89 [.slice none 0 0, .slice none 0 0] ∧ Below W.heap.size W wx)
  case first =>
    go_region_held3 (fun w' => (∀ b o, b < W.heap.size → w'.cell? ⟨b, o, none⟩ = W.cell? ⟨b, o, none⟩) ∧ Below W.heap.size W w')
      ((refine kp ?_; (repeat' (first | with_reducible exact Below.refl _ _ | with_reducible exact HB6.out | with_reducible exact HB5.out | with_reducible exact HB4.out | with_reducible exact hB3 | with_reducible refine Below.drew ?_ | with_reducible refine bel_alloc ?_ ?_ _ | with_reducible refine Below.setCell ?_ ?_ _)); all_goals (first | omega | (simp <;> omega))))
      (first
        | (go_at_call 68; have _g := HB4; refine (HCb.out _ (hvW.bel (by (repeat' (first | with_reducible exact Below.refl _ _ | with_reducible exact HB6.out | with_reducible exact HB5.out | with_reducible exact HB4.out | with_reducible exact hB3 | with_reducible refine Below.drew ?_ | with_reducible refine bel_alloc ?_ ?_ _ | with_reducible refine Below.setCell ?_ ?_ _)); all_goals (first | omega | (simp <;> omega)))) (huW.bel (by (repeat' (first | with_reducible exact Below.refl _ _ | with_reducible exact HB6.out | with_reducible exact HB5.out | with_reducible exact HB4.out | with_reducible exact hB3 | with_reducible refine Below.drew ?_ | with_reducible refine bel_alloc ?_ ?_ _ | with_reducible refine Below.setCell ?_ ?_ _)); all_goals (first | omega | (simp <;> omega))))).mono ?_; rintro e w5 ⟨⟨V5, e5, M5, f5, rfl, hV5, hM5⟩, hb5⟩; have HB5 : Hid (Below W.heap.size W w5) := (by refine bel_tr ?_ ?_ hb5; (repeat' (first | with_reducible exact Below.refl _ _ | with_reducible exact HB6.out | with_reducible exact HB5.out | with_reducible exact HB4.out | with_reducible exact hB3 | with_reducible refine Below.drew ?_ | with_reducible refine bel_alloc ?_ ?_ _ | with_reducible refine Below.setCell ?_ ?_ _)); all_goals (first | omega | (simp <;> omega))); have s5 := HB5.out.size; have h45 : Below w4.heap.size w4 w5 := (by refine bel_tr ?_ ?_ hb5; (repeat' (first | with_reducible exact Below.refl _ _ | with_reducible refine Below.drew ?_ | with_reducible refine bel_alloc ?_ ?_ _)); all_goals (first | omega | (simp <;> omega))); have hV4a := hV4.bel h45; have hM4a := hM4.bel h45)
        | (go_at_call 68; refine (HCa.out _ (hsW.bel (by (repeat' (first | with_reducible exact Below.refl _ _ | with_reducible exact HB6.out | with_reducible exact HB5.out | with_reducible exact HB4.out | with_reducible exact hB3 | with_reducible refine Below.drew ?_ | with_reducible refine bel_alloc ?_ ?_ _ | with_reducible refine Below.setCell ?_ ?_ _)); all_goals (first | omega | (simp <;> omega)))) (hrW.bel (by (repeat' (first | with_reducible exact Below.refl _ _ | with_reducible exact HB6.out | with_reducible exact HB5.out | with_reducible exact HB4.out | with_reducible exact hB3 | with_reducible refine Below.drew ?_ | with_reducible refine bel_alloc ?_ ?_ _ | with_reducible refine Below.setCell ?_ ?_ _)); all_goals (first | omega | (simp <;> omega))))).mono ?_; rintro e w4 ⟨⟨V4, e4, M4, f4, rfl, hV4, hM4⟩, hb4⟩; have HB4 : Hid (Below W.heap.size W w4) := (by refine bel_tr ?_ ?_ hb4; (repeat' (first | with_reducible exact Below.refl _ _ | with_reducible exact HB6.out | with_reducible exact HB5.out | with_reducible exact HB4.out | with_reducible exact hB3 | with_reducible refine Below.drew ?_ | with_reducible refine bel_alloc ?_ ?_ _ | with_reducible refine Below.setCell ?_ ?_ _)); all_goals (first | omega | (simp <;> omega))); have s4 := HB4.out.size)
        | (go_at_call 67; refine (HCO.out V4 M4 V5 M5 e4 f4 e5 f5 _ (hV4a.bel (by (repeat' (first | with_reducible exact Below.refl _ _ | with_reducible refine Below.drew ?_ | with_reducible refine bel_alloc ?_ ?_ _)); all_goals (first | omega | (simp <;> omega)))).1 (hM4a.bel (by (repeat' (first | with_reducible exact Below.refl _ _ | with_reducible refine Below.drew ?_ | with_reducible refine bel_alloc ?_ ?_ _)); all_goals (first | omega | (simp <;> omega)))).1 (hV5.bel (by (repeat' (first | with_reducible exact Below.refl _ _ | with_reducible refine Below.drew ?_ | with_reducible refine bel_alloc ?_ ?_ _)); all_goals (first | omega | (simp <;> omega)))).1 (hM5.bel (by (repeat' (first | with_reducible exact Below.refl _ _ | with_reducible refine Below.drew ?_ | with_reducible refine bel_alloc ?_ ?_ _)); all_goals (first | omega | (simp <;> omega)))).1).mono ?_; rintro e w6 ⟨rfl, hb6⟩; have HB6 : Hid (Below W.heap.size W w6) := (by refine bel_tr ?_ ?_ hb6; (repeat' (first | with_reducible exact Below.refl _ _ | with_reducible exact HB6.out | with_reducible exact HB5.out | with_reducible exact HB4.out | with_reducible exact hB3 | with_reducible refine Below.drew ?_ | with_reducible refine bel_alloc ?_ ?_ _ | with_reducible refine Below.setCell ?_ ?_ _)); all_goals (first | omega | (simp <;> omega))); have s6 := HB6.out.size; (try (refine (have B3 : Blk w6 (w3.heap.size) 89 [.slice none 0 0, .slice none 0 0] := ?_; ?_); (focus ((repeat' (first | with_reducible exact Blk.new _ _ [_, _] | with_reducible refine Blk.dr ?_ | with_reducible refine Blk.bel ?_ (alloc_bel _ _) | with_reducible refine Blk.bel ?_ hb6 | with_reducible refine Blk.bel ?_ hb5 | with_reducible refine Blk.bel ?_ hb4)); done)); have c30 := B3.cell 0; have c31 := B3.cell 1; simp only [List.getElem?_cons_zero, List.getElem?_cons_succ] at c30 c31; have d30 := B3.frozen 0; have d31 := B3.frozen 1; clear B3)); (try (refine (have B4 : Blk w6 (w4.heap.size) 89 [.slice none 0 0, .slice none 0 0] := ?_; ?_); (focus ((repeat' (first | with_reducible exact Blk.new _ _ [_, _] | with_reducible refine Blk.dr ?_ | with_reducible refine Blk.bel ?_ (alloc_bel _ _) | with_reducible refine Blk.bel ?_ hb6 | with_reducible refine Blk.bel ?_ hb5 | with_reducible refine Blk.bel ?_ hb4)); done)); have c40 := B4.cell 0; have c41 := B4.cell 1; simp only [List.getElem?_cons_zero, List.getElem?_cons_succ] at c40 c41; have d40 := B4.frozen 0; have d41 := B4.frozen 1; clear B4)); (try (refine (have B5 : Blk w6 (w5.heap.size) 89 [.slice none 0 0, .slice none 0 0] := ?_; ?_); (focus ((repeat' (first | with_reducible exact Blk.new _ _ [_, _] | with_reducible refine Blk.dr ?_ | with_reducible refine Blk.bel ?_ (alloc_bel _ _) | with_reducible refine Blk.bel ?_ hb6 | with_reducible refine Blk.bel ?_ hb5 | with_reducible refine Blk.bel ?_ hb4)); done)); have c50 := B5.cell 0; have c51 := B5.cell 1; simp only [List.getElem?_cons_zero, List.getElem?_cons_succ] at c50 c51; have d50 := B5.frozen 0; have d51 := B5.frozen 1; clear B5))))
    all_goals
      go_wp2
      go_meet
      refine ⟨_, rfl, rfl, by first | omega | (simp <;> omega), ?_, ?_⟩
      · (repeat' (first | with_reducible exact Blk.new _ _ [_, _] | with_reducible refine Blk.set2 (a := .slice none 0 0) (b := .slice none 0 0) ?_ _ _ | with_reducible refine Blk.dr ?_ | with_reducible refine Blk.bel ?_ (alloc_bel _ _) | with_reducible refine Blk.bel ?_ hb6 | with_reducible refine Blk.bel ?_ hb5 | with_reducible refine Blk.bel ?_ hb4))
      · (repeat' (first | with_reducible exact Below.refl _ _ | with_reducible exact HB6.out | with_reducible exact HB5.out | with_reducible exact HB4.out | with_reducible exact hB3 | with_reducible refine Below.drew ?_ | with_reducible refine bel_alloc ?_ ?_ _ | with_reducible refine Below.setCell ?_ ?_ _)); all_goals (first | omega | (simp <;> omega))
  obtain ⟨L, rfl, rfl, hLW, hL7, hB7⟩ := hcut
  obtain ⟨w7, hw7⟩ : ∃ w7 : World, wc = w7 := ⟨_, rfl⟩
  rw [hw7] at hL7 hB7 ⊢
  clear hw7
  have k7 := (kp hB7).1
  have l0 := hL7.cell 0; have l1 := hL7.cell 1; simp only [List.getElem?_cons_zero, List.getElem?_cons_succ] at l0 l1
  go_upto_region 11 with (first
    | (go_at_call 69; have _g := hB8; refine (HLb.out _ (hvW.bel hB8) (huW.bel hB8)).mono ?_; rintro e w9 ⟨rfl, hb9⟩; have hB9 := bel_tr hB8 hB8.size hb9; have k9 := (kp hB9).1; have hL9 := hL8.bel hb9; have lt9 := hL9.lt; have l0 := hL9.cell 0; have l1 := hL9.cell 1; simp only [List.getElem?_cons_zero, List.getElem?_cons_succ] at l0 l1)
    | (go_at_call 69; refine (HLa.out _ (hsW.bel hB7) (hrW.bel hB7)).mono ?_; rintro e w8 ⟨rfl, hb8⟩; have hB8 := bel_tr hB7 hB7.size hb8; have k8 := (kp hB8).1; have hL8 := hL7.bel hb8; have lt8 := hL8.lt; have l0 := hL8.cell 0; have l1 := hL8.cell 1; simp only [List.getElem?_cons_zero, List.getElem?_cons_succ] at l0 l1)
    )
  obtain ⟨w10, hw10⟩ : ∃ w10, w9.alloc (.cells #[.slice none 0 0, .slice none 0 0] 89) = w10 := ⟨_, rfl⟩
  have hZ : Blk w10 w9.heap.size 89 [.slice none 0 0, .slice none 0 0] := by rw [← hw10]; exact Blk.new w9 _ [_, _]
  have hB10 : Below W.heap.size W w10 := by rw [← hw10]; exact bel_alloc hB9 hB9.size _
  have h910 : Below w9.heap.size w9 w10 := by rw [← hw10]; exact alloc_bel _ _
  have hL10 := hL9.bel h910
  rw [hw10]
  clear hw10
  obtain ⟨Z, hZ0⟩ : ∃ Z, w9.heap.size = Z := ⟨_, rfl⟩
  rw [hZ0] at hZ ⊢
  have hLZ : L ≠ Z := by have := hL9.lt; omega
  have hWZ : W.heap.size ≤ Z := by have := hB9.size; omega
  have k10 := (kp hB10).1
  clear l0 l1 lt8 lt9 hZ0
  go_upto_region 12 with (first
    | (go_at_call 70; refine (HRK.out _ (hsW.bel hB10) (hrW.bel hB10) (hvW.bel hB10) (huW.bel hB10)).mono ?_; rintro e w11 ⟨rfl, hb11⟩; have hB11 := bel_tr hB10 hB10.size hb11; have hZ11 := hZ.bel hb11; have f0 := hZ11.frozen 0; have f1 := hZ11.frozen 1; have z0 := hZ11.cell 0; have z1 := hZ11.cell 1; simp only [List.getElem?_cons_zero, List.getElem?_cons_succ] at z0 z1))
  obtain ⟨w12, hw12⟩ : ∃ w12, (w11.setCell ⟨Z, 0, none⟩ (.slice none 0 0)).setCell ⟨Z, 1, none⟩ (.slice none 0 0) = w12 := ⟨_, rfl⟩
  have hZ12 : Blk w12 Z 89 [(.slice none 0 0), (.slice none 0 0)] := by rw [← hw12]; exact hZ11.set2 _ _
  have hL12 := ((hL10.bel hb11).far (p := ⟨Z, 0, none⟩) hLZ (.slice none 0 0)).far (p := ⟨Z, 1, none⟩) hLZ (.slice none 0 0)
  have hB12 : Below W.heap.size W w12 := by rw [← hw12]; exact (hB11.setCell (p := ⟨Z, 0, none⟩) hWZ _).setCell (p := ⟨Z, 1, none⟩) hWZ _
  rw [hw12] at hL12 ⊢
  have z0 := hZ12.cell 0; have z1 := hZ12.cell 1; simp only [List.getElem?_cons_zero, List.getElem?_cons_succ] at z0 z1
  have l0 := hL12.cell 0; have l1 := hL12.cell 1; simp only [List.getElem?_cons_zero, List.getElem?_cons_succ] at l0 l1
  go_wp2_with (first
    | (go_at_call 64; refine (sameLine_c [] [] none none none none 0 0 0 0 0 0 _ rfl rfl (by omega) (by omega) (Rd.nil _ _) (Rd.nil _ _) (Rd.nil _ _) (Rd.nil _ _)).mono ?_; rintro e wE ⟨rfl, hbE⟩)
    )
  go_ret
  exact ⟨rfl, bel_tr hwW hwW.size (bel_tr hB12 hB12.size hbE)⟩

set_option maxHeartbeats 4000000 in
theorem combined_7 (A MA B MB : Option Addr) (qa ra qb rb : Nat) (va vb : List (Int × Int)) (ma mb : List Int) (w : World) (hT : Tab w) (hs : Rd w A (gs va)) (hr : Rd w MA (ints ma)) (hv : Rd w B (gs vb)) (hu : Rd w MB (ints mb)) (hf : fewB va.length ma.length = true) (hf2 : fewB vb.length mb.length = true) (h1 : lineE va ma = 0) (h2 : lineE vb mb = 0) (h3 : va.length = vb.length) (h4 : bigB va vb ma mb va.length = false) :
    Calls Tryd.prog 11 #[.agg #[.slice A va.length qa, .slice MA ma.length ra], .agg #[.slice B vb.length qb, .slice MB mb.length rb]] w fun r w' => r = .returned (.bool true) ∧ Below w.heap.size w w' := by
  have ha : va.length ≤ 70 ∧ ma.length ≤ 70 := by simpa [fewB] using hf
  have hb : vb.length ≤ 70 ∧ mb.length ≤ 70 := by simpa [fewB] using hf2
  have HFa := hide (fun W => fewLine_c A MA va.length ma.length qa ra W)
  have HFb := hide (fun W => fewLine_c B MB vb.length mb.length qb rb W)
  rw [hf] at HFa
  rw [hf2] at HFb
  have HCa := hide (fun W h1 h2 => copyLine_c A MA qa ra va ma W h1 h2 (by omega) (by omega))
  have HCb := hide (fun W h1 h2 => copyLine_c B MB qb rb vb mb W h1 h2 (by omega) (by omega))
  have HLa := hide (fun W h1 h2 => refLineErr_c A MA qa ra va ma W h1 h2 (by omega))
  have HLb := hide (fun W h1 h2 => refLineErr_c B MB qb rb vb mb W h1 h2 (by omega))
  have hE : combE va vb ma mb = 0 := by
    have e : ((va.length : Int) != vb.length) = false := by simp; omega
    unfold combE firstE; rw [if_pos h1]; unfold firstE; rw [if_pos h2, e]; rfl
  have HCO := hide (fun (V4 M4 V5 M5 : Option Addr) (e4 f4 e5 f5 : Nat) W q0 q1 q2 q3 => (combined_sum V4 M4 V5 M5 e4 f4 e5 f5 va vb ma mb W q0 q1 q2 q3 (by omega) (by omega) hE).mono (fun r w' (h : _ ∧ _) => show (∃ V M : Option Addr, r = .returned (.tuple #[.agg #[.slice V va.length va.length, .slice M va.length va.length], .int .i64 0]) ∧ RdT w' 76 V (gs (sumV va vb va.length)) ∧ RdT w' 3 M (ints (sumM ma mb va.length))) ∧ Below W.heap.size W w' from ⟨(by rcases h.1 with ⟨h, _⟩ | ⟨_, h⟩; rw [h4] at h; cases h; exact h), h.2⟩))
  have HRK := hide (fun W q0 q1 q2 q3 => (refCombined_sum A MA B MB qa ra qb rb va vb ma mb W q0 q1 q2 q3 h1 h2 h3).mono (fun r w' (h : _ ∧ _) => show (∃ (V M : Option Addr) (cV cM : Nat), r = .returned (.tuple #[.agg #[.slice V va.length cV, .slice M va.length cM], .int .i64 0]) ∧ RdT w' 76 V (gs (sumV va vb va.length)) ∧ RdT w' 3 M (ints (sumM ma mb va.length))) ∧ Below W.heap.size W w' from ⟨(by rcases h.1 with ⟨h, _⟩ | ⟨_, h⟩; rw [h4] at h; cases h; exact h), h.2⟩))
  rw [h1] at HLa
  rw [h2] at HLb
  have hlV := sumV_length va vb va.length
  have hlM := sumM_length ma mb va.length
  have HSL := hide (fun (V V' M M' : Option Addr) (q1 q2 q3 q4 : Nat) W a b c d => sameLine_c (sumV va vb va.length) (sumM ma mb va.length) V V' M M' q1 q2 q3 q4 va.length va.length W hlV hlM (by omega) (by omega) a b c d)
  clear hf hf2 hE h1 h2 h3 h4 hlV hlM
  go_enter Tryd.func11, Tryd.ntmps11
  go_upto_region 1 with fail
  obtain ⟨W, hW⟩ : ∃ W, (w.alloc (.cells #[.slice A va.length qa, .slice MA ma.length ra] 89)).alloc (.cells #[.slice B vb.length qb, .slice MB mb.length rb] 89) = W := ⟨_, rfl⟩
  have hwW : Below w.heap.size w W := by rw [← hW]; exact (alloc_bel _ _).alloc (by simp) _
  have hX : Blk W w.heap.size 89 [.slice A va.length qa, .slice MA ma.length ra] := by rw [← hW]; exact (Blk.new w _ [_, _]).bel (alloc_bel _ _)
  have hY : Blk W (w.heap.size + 1) 89 [.slice B vb.length qb, .slice MB mb.length rb] := by rw [← hW]; exact Blk.new2 w 89 89 [.slice A va.length qa, .slice MA ma.length ra] [.slice B vb.length qb, .slice MB mb.length rb]
  rw [hW]
  clear hW
  obtain ⟨y, hy⟩ : ∃ y, w.heap.size + 1 = y := ⟨_, rfl⟩
  rw [hy] at hY ⊢
  clear hy
  have hTW := hT.bel hwW
  have hsW := hs.bel hwW
  have hrW := hr.bel hwW
  have hvW := hv.bel hwW
  have huW := hu.bel hwW
  have hxl := hX.lt
  have hyl := hY.lt
  have c0 := hX.cell 0; have c1 := hX.cell 1; simp only [List.getElem?_cons_zero, List.getElem?_cons_succ] at c0 c1
  have y0 := hY.cell 0; have y1 := hY.cell 1; simp only [List.getElem?_cons_zero, List.getElem?_cons_succ] at y0 y1
  clear hX hY hT hs hr hv hu
  go_upto_region 5 with (first
    | (go_at_call 15; refine (awake_c _ hTW).mono ?_; rintro e w1 ⟨rfl, hb1⟩; have k1 := (kp hb1).1)
    | (go_at_call 66; have _g := hB2; refine (HFb.out _).mono ?_; rintro e w3 ⟨rfl, hb3⟩; have hB3 := bel_tr hB2 hB2.size hb3; have k3 := (kp hB3).1)
    | (go_at_call 66; refine (HFa.out _).mono ?_; rintro e w2 ⟨rfl, hb2⟩; have hB2 := bel_tr hb1 hb1.size hb2; have k2 := (kp hB2).1)
    )
  have s3 := hB3.size
  go_cut [5, 6] from 19 to 26 (fun t5 t6 wx => ∃ (L : Nat) (V6 M6 : Option Addr), t5 = .pointer (some ⟨L, 0, none⟩) ∧ t6 = .int .i64 0 ∧ W.heap.size ≤ L ∧ Blk wx L 89 [.slice V6 va.length va.length, .slice M6 va.length va.length] ∧ (RdT wx 76 V6 (gs (sumV va vb va.length)) ∧ RdT wx 3 M6 (ints (sumM ma mb va.length))) ∧ Below W.heap.size W wx)
  case first =>
    go_region_held3 (fun w' => (∀ b o, b < W.heap.size → w'.cell? ⟨b, o, none⟩ = W.cell? ⟨b, o, none⟩) ∧ Below W.heap.size W w')
      ((refine kp ?_; (repeat' (first | with_reducible exact Below.refl _ _ | with_reducible exact HB6.out | with_reducible exact HB5.out | with_reducible exact HB4.out | with_reducible exact hB3 | with_reducible refine Below.drew ?_ | with_reducible refine bel_alloc ?_ ?_ _ | with_reducible refine Below.setCell ?_ ?_ _)); all_goals (first | omega | (simp <;> omega))))
      (first
        | (go_at_call 68; have _g := HB4; refine (HCb.out _ (hvW.bel (by (repeat' (first | with_reducible exact Below.refl _ _ | with_reducible exact HB6.out | with_reducible exact HB5.out | with_reducible exact HB4.out | with_reducible exact hB3 | with_reducible refine Below.drew ?_ | with_reducible refine bel_alloc ?_ ?_ _ | with_reducible refine Below.setCell ?_ ?_ _)); all_goals (first | omega | (simp <;> omega)))) (huW.bel (by (repeat' (first | with_reducible exact Below.refl _ _ | with_reducible exact HB6.out | with_reducible exact HB5.out | with_reducible exact HB4.out | with_reducible exact hB3 | with_reducible refine Below.drew ?_ | with_reducible refine bel_alloc ?_ ?_ _ | with_reducible refine Below.setCell ?_ ?_ _)); all_goals (first | omega | (simp <;> omega))))).mono ?_; rintro e w5 ⟨⟨V5, e5, M5, f5, rfl, hV5, hM5⟩, hb5⟩; have HB5 : Hid (Below W.heap.size W w5) := (by refine bel_tr ?_ ?_ hb5; (repeat' (first | with_reducible exact Below.refl _ _ | with_reducible exact HB6.out | with_reducible exact HB5.out | with_reducible exact HB4.out | with_reducible exact hB3 | with_reducible refine Below.drew ?_ | with_reducible refine bel_alloc ?_ ?_ _ | with_reducible refine Below.setCell ?_ ?_ _)); all_goals (first | omega | (simp <;> omega))); have s5 := HB5.out.size; have h45 : Below w4.heap.size w4 w5 := (by refine bel_tr ?_ ?_ hb5; (repeat' (first | with_reducible exact Below.refl _ _ | with_reducible refine Below.drew ?_ | with_reducible refine bel_alloc ?_ ?_ _)); all_goals (first | omega | (simp <;> omega))); have hV4a := hV4.bel h45; have hM4a := hM4.bel h45)
        | (go_at_call 68; refine (HCa.out _ (hsW.bel (by (repeat' (first | with_reducible exact Below.refl _ _ | with_reducible exact HB6.out | with_reducible exact HB5.out | with_reducible exact HB4.out | with_reducible exact hB3 | with_reducible refine Below.drew ?_ | with_reducible refine bel_alloc ?_ ?_ _ | with_reducible refine Below.setCell ?_ ?_ _)); all_goals (first | omega | (simp <;> omega)))) (hrW.bel (by (repeat' (first | with_reducible exact Below.refl _ _ | with_reducible exact HB6.out | with_reducible exact HB5.out | with_reducible exact HB4.out | with_reducible exact hB3 | with_reducible refine Below.drew ?_ | with_reducible refine bel_alloc ?_ ?_ _ | with_reducible refine Below.setCell ?_ ?_ _)); all_goals (first | omega | (simp <;> omega))))).mono ?_; rintro e w4 ⟨⟨V4, e4, M4, f4, rfl, hV4, hM4⟩, hb4⟩; have HB4 : Hid (Below W.heap.size W w4) := (by refine bel_tr ?_ ?_ hb4; (repeat' (first | with_reducible exact Below.refl _ _ | with_reducible exact HB6.out | with_reducible exact HB5.out | with_reducible exact HB4.out | with_reducible exact hB3 | with_reducible refine Below.drew ?_ | with_reducible refine bel_alloc ?_ ?_ _ | with_reducible refine Below.setCell ?_ ?_ _)); all_goals (first | omega | (simp <;> omega))); have s4 := HB4.out.size)
        | (go_at_call 67; refine (HCO.out V4 M4 V5 M5 e4 f4 e5 f5 _ (hV4a.bel (by (repeat' (first | with_reducible exact Below.refl _ _ | with_reducible refine Below.drew ?_ | with_reducible refine bel_alloc ?_ ?_ _)); all_goals (first | omega | (simp <;> omega)))).1 (hM4a.bel (by (repeat' (first | with_reducible exact Below.refl _ _ | with_reducible refine Below.drew ?_ | with_reducible refine bel_alloc ?_ ?_ _)); all_goals (first | omega | (simp <;> omega)))).1 (hV5.bel (by (repeat' (first | with_reducible exact Below.refl _ _ | with_reducible refine Below.drew ?_ | with_reducible refine bel_alloc ?_ ?_ _)); all_goals (first | omega | (simp <;> omega)))).1 (hM5.bel (by (repeat' (first | with_reducible exact Below.refl _ _ | with_reducible refine Below.drew ?_ | with_reducible refine bel_alloc ?_ ?_ _)); all_goals (first | omega | (simp <;> omega)))).1).mono ?_; rintro e w6 ⟨⟨V6, M6, rfl, hV6, hM6⟩, hb6⟩; have HB6 : Hid (Below W.heap.size W w6) := (by refine bel_tr ?_ ?_ hb6; (repeat' (first | with_reducible exact Below.refl _ _ | with_reducible exact HB6.out | with_reducible exact HB5.out | with_reducible exact HB4.out | with_reducible exact hB3 | with_reducible refine Below.drew ?_ | with_reducible refine bel_alloc ?_ ?_ _ | with_reducible refine Below.setCell ?_ ?_ _)); all_goals (first | omega | (simp <;> omega))); have s6 := HB6.out.size; (try (refine (have B3 : Blk w6 (w3.heap.size) 89 [.slice none 0 0, .slice none 0 0] := ?_; ?_); (focus ((repeat' (first | with_reducible exact Blk.new _ _ [_, _] | with_reducible refine Blk.dr ?_ | with_reducible refine Blk.bel ?_ (alloc_bel _ _) | with_reducible refine Blk.bel ?_ hb6 | with_reducible refine Blk.bel ?_ hb5 | with_reducible refine Blk.bel ?_ hb4)); done)); have c30 := B3.cell 0; have c31 := B3.cell 1; simp only [List.getElem?_cons_zero, List.getElem?_cons_succ] at c30 c31; have d30 := B3.frozen 0; have d31 := B3.frozen 1; clear B3)); (try (refine (have B4 : Blk w6 (w4.heap.size) 89 [.slice none 0 0, .slice none 0 0] := ?_; ?_); (focus ((repeat' (first | with_reducible exact Blk.new _ _ [_, _] | with_reducible refine Blk.dr ?_ | with_reducible refine Blk.bel ?_ (alloc_bel _ _) | with_reducible refine Blk.bel ?_ hb6 | with_reducible refine Blk.bel ?_ hb5 | with_reducible refine Blk.bel ?_ hb4)); done)); have c40 := B4.cell 0; have c41 := B4.cell 1; simp only [List.getElem?_cons_zero, List.getElem?_cons_succ] at c40 c41; have d40 := B4.frozen 0; have d41 := B4.frozen 1; clear B4)); (try (refine (have B5 : Blk w6 (w5.heap.size) 89 [.slice none 0 0, .slice none 0 0] := ?_; ?_); (focus ((repeat' (first | with_reducible exact Blk.new _ _ [_, _] | with_reducible refine Blk.dr ?_ | with_reducible refine Blk.bel ?_ (alloc_bel _ _) | with_reducible refine Blk.bel ?_ hb6 | with_reducible refine Blk.bel ?_ hb5 | with_reducible refine Blk.bel ?_ hb4)); done)); have c50 := B5.cell 0; have c51 := B5.cell 1; simp only [List.getElem?_cons_zero, List.getElem?_cons_succ] at c50 c51; have d50 := B5.frozen 0; have d51 := B5.frozen 1; clear B5))))
    all_goals
      go_wp2
      go_meet
      refine ⟨_, V6, M6, rfl, rfl, by first | omega | (simp <;> omega), ?_, ⟨?_, ?_⟩, ?_⟩
      · (repeat' (first | with_reducible exact Blk.new _ _ [_, _] | with_reducible refine Blk.set2 (a := .slice none 0 0) (b := .slice none 0 0) ?_ _ _ | with_reducible refine Blk.dr ?_ | with_reducible refine Blk.bel ?_ (alloc_bel _ _) | with_reducible refine Blk.bel ?_ hb6 | with_reducible refine Blk.bel ?_ hb5 | with_reducible refine Blk.bel ?_ hb4))
      · first
          | exact hV6.al _
          | (refine RdT.set2 (e := 89) (a := .slice none 0 0) (b := .slice none 0 0) hV6 ?_ (by decide) _ _
             (repeat' (first | with_reducible exact Blk.new _ _ [_, _] | with_reducible refine Blk.set2 (a := .slice none 0 0) (b := .slice none 0 0) ?_ _ _ | with_reducible refine Blk.dr ?_ | with_reducible refine Blk.bel ?_ (alloc_bel _ _) | with_reducible refine Blk.bel ?_ hb6 | with_reducible refine Blk.bel ?_ hb5 | with_reducible refine Blk.bel ?_ hb4)))
      · first
          | exact hM6.al _
          | (refine RdT.set2 (e := 89) (a := .slice none 0 0) (b := .slice none 0 0) hM6 ?_ (by decide) _ _
             (repeat' (first | with_reducible exact Blk.new _ _ [_, _] | with_reducible refine Blk.set2 (a := .slice none 0 0) (b := .slice none 0 0) ?_ _ _ | with_reducible refine Blk.dr ?_ | with_reducible refine Blk.bel ?_ (alloc_bel _ _) | with_reducible refine Blk.bel ?_ hb6 | with_reducible refine Blk.bel ?_ hb5 | with_reducible refine Blk.bel ?_ hb4)))
      · (repeat' (first | with_reducible exact Below.refl _ _ | with_reducible exact HB6.out | with_reducible exact HB5.out | with_reducible exact HB4.out | with_reducible exact hB3 | with_reducible refine Below.drew ?_ | with_reducible refine bel_alloc ?_ ?_ _ | with_reducible refine Below.setCell ?_ ?_ _)); all_goals (first | omega | (simp <;> omega))
  obtain ⟨L, V6, M6, rfl, rfl, hLW, hL7, ⟨hV7, hM7⟩, hB7⟩ := hcut
  obtain ⟨w7, hw7⟩ : ∃ w7 : World, wc = w7 := ⟨_, rfl⟩
  rw [hw7] at hL7 hB7 hV7 hM7 ⊢
  clear hw7
  have k7 := (kp hB7).1
  have l0 := hL7.cell 0; have l1 := hL7.cell 1; simp only [List.getElem?_cons_zero, List.getElem?_cons_succ] at l0 l1
  go_upto_region 11 with (first
    | (go_at_call 69; have _g := hB8; refine (HLb.out _ (hvW.bel hB8) (huW.bel hB8)).mono ?_; rintro e w9 ⟨rfl, hb9⟩; have hB9 := bel_tr hB8 hB8.size hb9; have k9 := (kp hB9).1; have hL9 := hL8.bel hb9; have lt9 := hL9.lt; have l0 := hL9.cell 0; have l1 := hL9.cell 1; simp only [List.getElem?_cons_zero, List.getElem?_cons_succ] at l0 l1)
    | (go_at_call 69; refine (HLa.out _ (hsW.bel hB7) (hrW.bel hB7)).mono ?_; rintro e w8 ⟨rfl, hb8⟩; have hB8 := bel_tr hB7 hB7.size hb8; have k8 := (kp hB8).1; have hL8 := hL7.bel hb8; have lt8 := hL8.lt; have l0 := hL8.cell 0; have l1 := hL8.cell 1; simp only [List.getElem?_cons_zero, List.getElem?_cons_succ] at l0 l1)
    )
  obtain ⟨w10, hw10⟩ : ∃ w10, w9.alloc (.cells #[.slice none 0 0, .slice none 0 0] 89) = w10 := ⟨_, rfl⟩
  have hZ : Blk w10 w9.heap.size 89 [.slice none 0 0, .slice none 0 0] := by rw [← hw10]; exact Blk.new w9 _ [_, _]
  have hB10 : Below W.heap.size W w10 := by rw [← hw10]; exact bel_alloc hB9 hB9.size _
  have h910 : Below w9.heap.size w9 w10 := by rw [← hw10]; exact alloc_bel _ _
  have hL10 := hL9.bel h910
  rw [hw10]
  clear hw10
  obtain ⟨Z, hZ0⟩ : ∃ Z, w9.heap.size = Z := ⟨_, rfl⟩
  rw [hZ0] at hZ ⊢
  have hLZ : L ≠ Z := by have := hL9.lt; omega
  have hWZ : W.heap.size ≤ Z := by have := hB9.size; omega
  have k10 := (kp hB10).1
  clear l0 l1 lt8 lt9 hZ0
  have hV10 := ((hV7.bel hb8).bel hb9).bel h910
  have hM10 := ((hM7.bel hb8).bel hb9).bel h910
  go_upto_region 12 with (first
    | (go_at_call 70; refine (HRK.out _ (hsW.bel hB10) (hrW.bel hB10) (hvW.bel hB10) (huW.bel hB10)).mono ?_; rintro e w11 ⟨⟨V9, M9, c9, d9, rfl, hV9, hM9⟩, hb11⟩; have hB11 := bel_tr hB10 hB10.size hb11; have hZ11 := hZ.bel hb11; have f0 := hZ11.frozen 0; have f1 := hZ11.frozen 1; have z0 := hZ11.cell 0; have z1 := hZ11.cell 1; simp only [List.getElem?_cons_zero, List.getElem?_cons_succ] at z0 z1))
  have hV12 := (hV10.bel hb11).set2 hZ11 (by decide) (.slice V9 va.length c9) (.slice M9 va.length d9)
  have hM12 := (hM10.bel hb11).set2 hZ11 (by decide) (.slice V9 va.length c9) (.slice M9 va.length d9)
  have hV13 := hV9.set2 hZ11 (by decide) (.slice V9 va.length c9) (.slice M9 va.length d9)
  have hM13 := hM9.set2 hZ11 (by decide) (.slice V9 va.length c9) (.slice M9 va.length d9)
  obtain ⟨w12, hw12⟩ : ∃ w12, (w11.setCell ⟨Z, 0, none⟩ (.slice V9 va.length c9)).setCell ⟨Z, 1, none⟩ (.slice M9 va.length d9) = w12 := ⟨_, rfl⟩
  have hZ12 : Blk w12 Z 89 [(.slice V9 va.length c9), (.slice M9 va.length d9)] := by rw [← hw12]; exact hZ11.set2 _ _
  have hL12 := ((hL10.bel hb11).far (p := ⟨Z, 0, none⟩) hLZ (.slice V9 va.length c9)).far (p := ⟨Z, 1, none⟩) hLZ (.slice M9 va.length d9)
  have hB12 : Below W.heap.size W w12 := by rw [← hw12]; exact (hB11.setCell (p := ⟨Z, 0, none⟩) hWZ _).setCell (p := ⟨Z, 1, none⟩) hWZ _
  rw [hw12] at hL12 ⊢
  have z0 := hZ12.cell 0; have z1 := hZ12.cell 1; simp only [List.getElem?_cons_zero, List.getElem?_cons_succ] at z0 z1
  have l0 := hL12.cell 0; have l1 := hL12.cell 1; simp only [List.getElem?_cons_zero, List.getElem?_cons_succ] at l0 l1
  rw [hw12] at hV12 hM12 hV13 hM13
  clear hw12
  go_wp2_with (first
    | (go_at_call 64; refine (HSL.out V6 V9 M6 M9 va.length va.length c9 d9 _ hV12.1 hV13.1 hM12.1 hM13.1).mono ?_; rintro e wE ⟨rfl, hbE⟩)
    )
  go_ret
  exact ⟨rfl, bel_tr hwW hwW.size (bel_tr hB12 hB12.size hbE)⟩

theorem combinedLaw_c (A MA B MB : Option Addr) (qa ra qb rb : Nat) (va vb : List (Int × Int)) (ma mb : List Int) (w : World) (hT : Tab w) (hs : Rd w A (gs va)) (hr : Rd w MA (ints ma)) (hv : Rd w B (gs vb)) (hu : Rd w MB (ints mb)) :
    Calls Tryd.prog 11 #[.agg #[.slice A va.length qa, .slice MA ma.length ra], .agg #[.slice B vb.length qb, .slice MB mb.length rb]] w fun r w' => r = .returned (.bool true) ∧ Below w.heap.size w w' := by
  cases hf : fewB va.length ma.length
  · exact combined_1 A MA B MB qa ra qb rb va vb ma mb w hT hs hr hv hu hf
  · cases hf2 : fewB vb.length mb.length
    · exact combined_2 A MA B MB qa ra qb rb va vb ma mb w hT hs hr hv hu hf hf2
    · by_cases h1 : lineE va ma = 0
      · by_cases h2 : lineE vb mb = 0
        · by_cases h3 : va.length = vb.length
          · cases h4 : bigB va vb ma mb va.length
            · exact combined_7 A MA B MB qa ra qb rb va vb ma mb w hT hs hr hv hu hf hf2 h1 h2 h3 h4
            · exact combined_6 A MA B MB qa ra qb rb va vb ma mb w hT hs hr hv hu hf hf2 h1 h2 h3 h4
          · exact combined_5 A MA B MB qa ra qb rb va vb ma mb w hT hs hr hv hu hf hf2 h1 h2 h3
        · exact combined_4 A MA B MB qa ra qb rb va vb ma mb w hT hs hr hv hu hf hf2 h1 h2
      · exact combined_3 A MA B MB qa ra qb rb va vb ma mb w hT hs hr hv hu hf hf2 h1
end Go.Proofs.YthkmeaibppkhmaaDoor
