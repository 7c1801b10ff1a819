/- Contracts: the level and the answer that are asked for (the program's). -/
import Derived.Test.YthkmeaibppkhmaaDoorV5
import Derived.Test.YthkmeaibppkhmaaDoorR14
namespace Go.Proofs.YthkmeaibppkhmaaDoor
open Go.RowKit
set_option maxRecDepth 100000

theorem okAt_of {vals : List (Int × Int)} {miss : List Int} (h : lineE vals miss = 0) {k : Nat} (hk : k < vals.length) : okAt vals miss k := by
  obtain ⟨h1, _, _, h2⟩ := lineE_zero h
  have h3 := lineItem_zero (h2 k hk)
  rw [show vals[k] = vals.getD k (0, 0) by simp [List.getD, hk]] at h3
  exact ⟨hk, by omega, h3.1, h3.2⟩

def lvE (vals : List (Int × Int)) (miss : List Int) (lag b : Int) : Int := firstE [lineE vals miss, lagE vals.length lag, bgE b]
def anE (vals : List (Int × Int)) (miss : List Int) (lag b t : Int) : Int := firstE [lineE vals miss, lagE vals.length lag, ruE b t]
def pkE (vals : List (Int × Int)) (miss : List Int) (b t : Int) : Int := firstE [lineE vals miss, ruE b t]

theorem lagE_zero {n : Nat} {lag : Int} (h : lagE n lag = 0) : ∃ k : Nat, lag = k ∧ k < n := by
  have h := outB_false.1 (errIf_zero (by decide) h)
  exact ⟨lag.toNat, by omega, by omega⟩
theorem bgE_zero {b : Int} (h : bgE b = 0) : 0 ≤ b ∧ b ≤ 2000000 := outB_false.1 (errIf_zero (by decide) h)
theorem ruE_zero {b t : Int} (h : ruE b t = 0) : (0 ≤ b ∧ b ≤ 2000000) ∧ 0 ≤ t ∧ t ≤ 1000000000 := by
  have h0 := firstE_zero h
  exact ⟨bgE_zero (h0 _ (by simp)), outB_false.1 (errIf_zero (by decide) (h0 (errIf (outB t 0 1000000000) 2) (by simp)))⟩

theorem levelAt_err (V M : Option Addr) (q1 q2 : Nat) (vals : List (Int × Int)) (miss : List Int) (lag b : Int) (w : World) (hs : Rd w V (gs vals)) (hr : Rd w M (ints miss)) (hn : vals.length ≤ 1000) (hE : lvE vals miss lag b ≠ 0) :
    Calls Tryd.prog 71 #[.agg #[.slice V vals.length q1, .slice M miss.length q2], .int .i64 lag, .int .i64 b] w fun r w' => r = .returned (.tuple #[.agg #[.int .i64 0, .int .i64 0], .int .i64 (lvE vals miss lag b)]) ∧ Below w.heap.size w w' := by
  have e1 : (lvE vals miss lag b != 0) = true := by simpa using hE
  clear hE
  have HLE := hide (fun W h1 h2 => lineError_c V M q1 q2 vals miss W h1 h2 hn)
  have HLG := hide (fun W => lagError_c V M vals.length miss.length q1 q2 lag W hn)
  have HF : Hid (firstE [lineE vals miss, lagE vals.length lag, bgE b] = lvE vals miss lag b) := rfl
  go_enter Tryd.func71, Tryd.ntmps71
  go_upto_region 1 with fail
  obtain ⟨W, hW⟩ : ∃ W, (w.alloc (.cells #[.slice V vals.length q1, .slice M miss.length q2] 89)).alloc (.cells #[.int .i64 0, .int .i64 0] 107) = W := ⟨_, rfl⟩
  have hwW : Below w.heap.size w W := by rw [← hW]; exact (alloc_bel _ _).alloc (by simp) _
  have hX : Blk W w.heap.size 89 [.slice V vals.length q1, .slice M miss.length q2] := by rw [← hW]; exact (Blk.new w _ [_, _]).bel (alloc_bel _ _)
  have hR : Blk W (w.heap.size + 1) 107 [.int .i64 0, .int .i64 0] := by rw [← hW]; exact Blk.two w 89 107 [.slice V vals.length q1, .slice M miss.length q2] [.int .i64 0, .int .i64 0]
  rw [hW]
  clear hW
  obtain ⟨p, hp⟩ : ∃ p, w.heap.size + 1 = p := ⟨_, rfl⟩
  rw [hp] at hR ⊢
  have hsW := hs.bel hwW
  have hrW := hr.bel hwW
  have hxl := hX.lt
  have hrl := hR.lt
  have hpw : w.heap.size ≤ p := by omega
  have c0 := hX.cell 0; have c1 := hX.cell 1; simp only [List.getElem?_cons_zero, List.getElem?_cons_succ] at c0 c1
  have r0 := hR.cell 0; have r1 := hR.cell 1; simp only [List.getElem?_cons_zero, List.getElem?_cons_succ] at r0 r1
  have HR := hide hR
  clear hX hR hp hs hr
  go_region_held3 (fun w' => (∀ b o, b < W.heap.size → w'.cell? ⟨b, o, none⟩ = W.cell? ⟨b, o, none⟩) ∧ Below W.heap.size W w')
    (first | with_reducible exact kp_refl W | with_reducible exact kp HB1.out | with_reducible exact kp HB2.out | with_reducible exact kp (bel_alloc HB2.out HB2.out.size _))
    (first
      | (go_at_call 120; refine (HLE.out _ (hsW.drewN 1) (hrW.drewN 1)).mono ?_; rintro e w1 ⟨rfl, hb1⟩; have HB1 := hide (bel_tr ((Below.refl W.heap.size W).drew) (Nat.le_refl _) hb1))
      | (go_at_call 121; refine (HLG.out _).mono ?_; rintro e w2 ⟨rfl, hb2⟩; have HB2 := hide (bel_tr HB1.out HB1.out.size hb2))
      | (go_at_call 122; refine (budgetError_c _ _).mono ?_; rintro e_ w_ ⟨rfl, rfl⟩)
      | (go_at_call 92; refine (firstError_3 _ _ _ _).mono ?_; rintro e_ w_ ⟨rfl, rfl⟩))
  rw [HF.out]
  obtain ⟨w3, hw3⟩ : ∃ w3, w2.alloc (.cells #[.int .i64 (lineE vals miss), .int .i64 (lagE vals.length lag), .int .i64 (bgE b)] 25) = w3 := ⟨_, rfl⟩
  have hB3 : Below W.heap.size W w3 := by rw [← hw3]; exact bel_alloc HB2.out HB2.out.size _
  rw [hw3]
  clear hw3 HB1 HB2 HF HLE HLG
  have k3 := (kp hB3).1
  generalize lineE vals miss = ea
  generalize lagE vals.length lag = eb
  generalize bgE b = ec
  generalize hEq : lvE vals miss lag b = E at e1 ⊢
  have HEQ := hide hEq
  clear hEq
  have hRf := HR.out.below hB3 hrl
  have f0 := hRf.frozen 0
  have f1 := hRf.frozen 1
  go_wp2
  obtain ⟨WE, hWE⟩ : ∃ WE, (w3.setCell ⟨p, 0, none⟩ (.int .i64 0)).setCell ⟨p, 1, none⟩ (.int .i64 0) = WE := ⟨_, rfl⟩
  rw [hWE]
  have hE : Blk WE p 107 [.int .i64 0, .int .i64 0] := by rw [← hWE]; exact hRf.set2 _ _
  have hBE : Below w.heap.size w WE := by
    have h := bel_tr hwW hwW.size hB3
    rw [← hWE]
    exact (h.setCell (by show w.heap.size ≤ p; omega) _).setCell (by show w.heap.size ≤ p; omega) _
  have e5 := hE.cell 0
  have e6 := hE.cell 1
  simp only [List.getElem?_cons_zero, List.getElem?_cons_succ] at e5 e6
  clear hWE
  try simp only [Exit.inBlock, Exit.then]
  refine bodyPost_ret (by simp [results, Tryd.results71, go_sem, e5, e6]; try rfl) rfl ?_
  exact ⟨by rw [HEQ.out], hBE⟩

theorem levelAt_ok (V M : Option Addr) (q1 q2 : Nat) (vals : List (Int × Int)) (miss : List Int) (k : Nat) (b : Int) (w : World) (hs : Rd w V (gs vals)) (hr : Rd w M (ints miss)) (hn : vals.length ≤ 1000) (hE : lvE vals miss k b = 0) :
    Calls Tryd.prog 71 #[.agg #[.slice V vals.length q1, .slice M miss.length q2], .int .i64 k, .int .i64 b] w fun r w' => r = .returned (.tuple #[.agg #[.int .i64 (lvLo vals miss k b), .int .i64 (lvHi vals miss k b)], .int .i64 0]) ∧ Below w.heap.size w w' := by
  have e1 : (lvE vals miss k b != 0) = false := by simpa using hE
  have h0 := firstE_zero hE
  obtain ⟨k', hk1, hk2⟩ := lagE_zero (h0 (lagE vals.length k) (by simp))
  obtain ⟨hb1, hb2⟩ := bgE_zero (h0 (bgE b) (by simp))
  have hok := okAt_of (h0 (lineE vals miss) (by simp)) (show k < vals.length by omega)
  have HLV := hide (fun W h1 h2 => level_c V M q1 q2 vals miss k b W h1 h2 hok hb1 hb2)
  clear h0 hE hok hk1 hk2
  obtain ⟨lag, hlag⟩ : ∃ lag : Int, lag = k := ⟨_, rfl⟩
  rw [← hlag] at e1 HLV ⊢
  generalize lvLo vals miss k b = lo at HLV ⊢
  generalize lvHi vals miss k b = hi at HLV ⊢
  clear hlag
  have HLE := hide (fun W h1 h2 => lineError_c V M q1 q2 vals miss W h1 h2 hn)
  have HLG := hide (fun W => lagError_c V M vals.length miss.length q1 q2 lag W hn)
  have HF : Hid (firstE [lineE vals miss, lagE vals.length lag, bgE b] = lvE vals miss lag b) := rfl
  go_enter Tryd.func71, Tryd.ntmps71
  go_upto_region 1 with fail
  obtain ⟨W, hW⟩ : ∃ W, (w.alloc (.cells #[.slice V vals.length q1, .slice M miss.length q2] 89)).alloc (.cells #[.int .i64 0, .int .i64 0] 107) = W := ⟨_, rfl⟩
  have hwW : Below w.heap.size w W := by rw [← hW]; exact (alloc_bel _ _).alloc (by simp) _
  have hX : Blk W w.heap.size 89 [.slice V vals.length q1, .slice M miss.length q2] := by rw [← hW]; exact (Blk.new w _ [_, _]).bel (alloc_bel _ _)
  have hR : Blk W (w.heap.size + 1) 107 [.int .i64 0, .int .i64 0] := by rw [← hW]; exact Blk.two w 89 107 [.slice V vals.length q1, .slice M miss.length q2] [.int .i64 0, .int .i64 0]
  rw [hW]
  clear hW
  obtain ⟨p, hp⟩ : ∃ p, w.heap.size + 1 = p := ⟨_, rfl⟩
  rw [hp] at hR ⊢
  have hsW := hs.bel hwW
  have hrW := hr.bel hwW
  have hxl := hX.lt
  have hrl := hR.lt
  have hpw : w.heap.size ≤ p := by omega
  have c0 := hX.cell 0; have c1 := hX.cell 1; simp only [List.getElem?_cons_zero, List.getElem?_cons_succ] at c0 c1
  have r0 := hR.cell 0; have r1 := hR.cell 1; simp only [List.getElem?_cons_zero, List.getElem?_cons_succ] at r0 r1
  have HR := hide hR
  clear hX hR hp hs hr
  go_region_held3 (fun w' => (∀ b o, b < W.heap.size → w'.cell? ⟨b, o, none⟩ = W.cell? ⟨b, o, none⟩) ∧ Below W.heap.size W w')
    (first | with_reducible exact kp_refl W | with_reducible exact kp HB1.out | with_reducible exact kp HB2.out | with_reducible exact kp (bel_alloc HB2.out HB2.out.size _))
    (first
      | (go_at_call 120; refine (HLE.out _ (hsW.drewN 1) (hrW.drewN 1)).mono ?_; rintro e w1 ⟨rfl, hb1⟩; have HB1 := hide (bel_tr ((Below.refl W.heap.size W).drew) (Nat.le_refl _) hb1))
      | (go_at_call 121; refine (HLG.out _).mono ?_; rintro e w2 ⟨rfl, hb2⟩; have HB2 := hide (bel_tr HB1.out HB1.out.size hb2))
      | (go_at_call 122; refine (budgetError_c _ _).mono ?_; rintro e_ w_ ⟨rfl, rfl⟩)
      | (go_at_call 92; refine (firstError_3 _ _ _ _).mono ?_; rintro e_ w_ ⟨rfl, rfl⟩))
  rw [HF.out]
  obtain ⟨w3, hw3⟩ : ∃ w3, w2.alloc (.cells #[.int .i64 (lineE vals miss), .int .i64 (lagE vals.length lag), .int .i64 (bgE b)] 25) = w3 := ⟨_, rfl⟩
  have hB3 : Below W.heap.size W w3 := by rw [← hw3]; exact bel_alloc HB2.out HB2.out.size _
  rw [hw3]
  clear hw3 HB1 HB2 HF HLE HLG
  have k3 := (kp hB3).1
  generalize lineE vals miss = ea
  generalize lagE vals.length lag = eb
  generalize bgE b = ec
  generalize lvE vals miss lag b = E at e1 ⊢
  go_wp2_with (first | (go_at_call 123; refine (HLV.out _ (hsW.bel hB3) (hrW.bel hB3)).mono ?_; rintro e w4 ⟨rfl, hb4⟩; have hB4 := bel_tr hB3 hB3.size hb4; have hRf := HR.out.below hB4 hrl; have r0 := hRf.cell 0; have r1 := hRf.cell 1; simp only [List.getElem?_cons_zero, List.getElem?_cons_succ] at r0 r1; have f0 := hRf.frozen 0; have f1 := hRf.frozen 1))
  obtain ⟨WE, hWE⟩ : ∃ WE, (w4.setCell ⟨p, 0, none⟩ (.int .i64 lo)).setCell ⟨p, 1, none⟩ (.int .i64 hi) = WE := ⟨_, rfl⟩
  rw [hWE]
  have hE : Blk WE p 107 [.int .i64 lo, .int .i64 hi] := by rw [← hWE]; exact hRf.set2 _ _
  have hBE : Below w.heap.size w WE := by
    have h := bel_tr hwW hwW.size hB4
    rw [← hWE]
    exact (h.setCell (by show w.heap.size ≤ p; omega) _).setCell (by show w.heap.size ≤ p; omega) _
  have e5 := hE.cell 0
  have e6 := hE.cell 1
  simp only [List.getElem?_cons_zero, List.getElem?_cons_succ] at e5 e6
  clear hWE
  try simp only [Exit.inBlock, Exit.then]
  refine bodyPost_ret (by simp [results, Tryd.results71, go_sem, e5, e6]; try rfl) rfl ?_
  exact ⟨by rfl, hBE⟩

theorem answerAt_err (V M : Option Addr) (q1 q2 : Nat) (vals : List (Int × Int)) (miss : List Int) (lag b t : Int) (w : World) (hs : Rd w V (gs vals)) (hr : Rd w M (ints miss)) (hn : vals.length ≤ 1000) (hE : anE vals miss lag b t ≠ 0) :
    Calls Tryd.prog 72 #[.agg #[.slice V vals.length q1, .slice M miss.length q2], .int .i64 lag, .agg #[.int .i64 b, .int .i64 t]] w fun r w' => r = .returned (.tuple #[.int .i64 0, .int .i64 (anE vals miss lag b t)]) ∧ Below w.heap.size w w' := by
  have e1 : (anE vals miss lag b t != 0) = true := by simpa using hE
  clear hE
  have HLE := hide (fun W h1 h2 => lineError_c V M q1 q2 vals miss W h1 h2 hn)
  have HLG := hide (fun W => lagError_c V M vals.length miss.length q1 q2 lag W hn)
  have HF : Hid (firstE [lineE vals miss, lagE vals.length lag, ruE b t] = anE vals miss lag b t) := rfl
  go_enter Tryd.func72, Tryd.ntmps72
  go_upto_region 1 with fail
  obtain ⟨W, hW⟩ : ∃ W, (w.alloc (.cells #[.slice V vals.length q1, .slice M miss.length q2] 89)).alloc (.cells #[.int .i64 b, .int .i64 t] 105) = W := ⟨_, rfl⟩
  have hwW : Below w.heap.size w W := by rw [← hW]; exact (alloc_bel _ _).alloc (by simp) _
  have hX : Blk W w.heap.size 89 [.slice V vals.length q1, .slice M miss.length q2] := by rw [← hW]; exact (Blk.new w _ [_, _]).bel (alloc_bel _ _)
  have hR : Blk W (w.heap.size + 1) 105 [.int .i64 b, .int .i64 t] := by rw [← hW]; exact Blk.two w 89 105 [.slice V vals.length q1, .slice M miss.length q2] [.int .i64 b, .int .i64 t]
  rw [hW]
  clear hW
  obtain ⟨p, hp⟩ : ∃ p, w.heap.size + 1 = p := ⟨_, rfl⟩
  rw [hp] at hR ⊢
  have hsW := hs.bel hwW
  have hrW := hr.bel hwW
  have hxl := hX.lt
  have hrl := hR.lt
  have c0 := hX.cell 0; have c1 := hX.cell 1; simp only [List.getElem?_cons_zero, List.getElem?_cons_succ] at c0 c1
  have r0 := hR.cell 0; have r1 := hR.cell 1; simp only [List.getElem?_cons_zero, List.getElem?_cons_succ] at r0 r1
  clear hX hR hp hs hr
  go_region_held3 (fun w' => (∀ b o, b < W.heap.size → w'.cell? ⟨b, o, none⟩ = W.cell? ⟨b, o, none⟩) ∧ Below W.heap.size W w')
    (first | with_reducible exact kp_refl W | with_reducible exact kp HB1.out | with_reducible exact kp HB2.out | with_reducible exact kp HB3.out | with_reducible exact kp (bel_alloc HB3.out HB3.out.size _))
    (first
      | (go_at_call 120; refine (HLE.out _ (hsW.drewN 1) (hrW.drewN 1)).mono ?_; rintro e w1 ⟨rfl, hb1⟩; have HB1 := hide (bel_tr ((Below.refl W.heap.size W).drew) (Nat.le_refl _) hb1))
      | (go_at_call 121; refine (HLG.out _).mono ?_; rintro e w2 ⟨rfl, hb2⟩; have HB2 := hide (bel_tr HB1.out HB1.out.size hb2))
      | (go_at_call 124; refine (ruleError_c _ _ _).mono ?_; rintro e w3 ⟨rfl, hb3⟩; have HB3 := hide (bel_tr HB2.out HB2.out.size hb3))
      | (go_at_call 92; refine (firstError_3 _ _ _ _).mono ?_; rintro e_ w_ ⟨rfl, rfl⟩))
  rw [HF.out]
  obtain ⟨w4, hw4⟩ : ∃ w4, w3.alloc (.cells #[.int .i64 (lineE vals miss), .int .i64 (lagE vals.length lag), .int .i64 (ruE b t)] 25) = w4 := ⟨_, rfl⟩
  have hB4 : Below W.heap.size W w4 := by rw [← hw4]; exact bel_alloc HB3.out HB3.out.size _
  rw [hw4]
  clear hw4 HB1 HB2 HB3 HF HLE HLG
  have k4 := (kp hB4).1
  generalize lineE vals miss = ea
  generalize lagE vals.length lag = eb
  generalize ruE b t = ec
  generalize hEq : anE vals miss lag b t = E at e1 ⊢
  have HEQ := hide hEq
  clear hEq
  go_wp2
  go_ret2
  exact ⟨by rw [HEQ.out]; rfl, bel_tr hwW hwW.size hB4⟩

theorem answerAt_ok (V M : Option Addr) (q1 q2 : Nat) (vals : List (Int × Int)) (miss : List Int) (k : Nat) (b t : Int) (w : World) (hs : Rd w V (gs vals)) (hr : Rd w M (ints miss)) (hn : vals.length ≤ 1000) (hE : anE vals miss k b t = 0) :
    Calls Tryd.prog 72 #[.agg #[.slice V vals.length q1, .slice M miss.length q2], .int .i64 k, .agg #[.int .i64 b, .int .i64 t]] w fun r w' => r = .returned (.tuple #[.int .i64 (ansN vals miss k b t), .int .i64 0]) ∧ Below w.heap.size w w' := by
  have e1 : (anE vals miss k b t != 0) = false := by simpa using hE
  have h0 := firstE_zero hE
  obtain ⟨k', hk1, hk2⟩ := lagE_zero (h0 (lagE vals.length k) (by simp))
  obtain ⟨⟨hb1, hb2⟩, ht1, ht2⟩ := ruE_zero (h0 (ruE b t) (by simp))
  have hok := okAt_of (h0 (lineE vals miss) (by simp)) (show k < vals.length by omega)
  have HAN := hide (fun W h1 h2 => answer_c V M q1 q2 vals miss k b t W h1 h2 hok hb1 hb2 ht1 ht2)
  clear h0 hE hok hk1 hk2
  obtain ⟨lag, hlag⟩ : ∃ lag : Int, lag = k := ⟨_, rfl⟩
  rw [← hlag] at e1 HAN ⊢
  generalize ansN vals miss k b t = an at HAN ⊢
  clear hlag
  have HLE := hide (fun W h1 h2 => lineError_c V M q1 q2 vals miss W h1 h2 hn)
  have HLG := hide (fun W => lagError_c V M vals.length miss.length q1 q2 lag W hn)
  have HF : Hid (firstE [lineE vals miss, lagE vals.length lag, ruE b t] = anE vals miss lag b t) := rfl
  go_enter Tryd.func72, Tryd.ntmps72
  go_upto_region 1 with fail
  obtain ⟨W, hW⟩ : ∃ W, (w.alloc (.cells #[.slice V vals.length q1, .slice M miss.length q2] 89)).alloc (.cells #[.int .i64 b, .int .i64 t] 105) = W := ⟨_, rfl⟩
  have hwW : Below w.heap.size w W := by rw [← hW]; exact (alloc_bel _ _).alloc (by simp) _
  have hX : Blk W w.heap.size 89 [.slice V vals.length q1, .slice M miss.length q2] := by rw [← hW]; exact (Blk.new w _ [_, _]).bel (alloc_bel _ _)
  have hR : Blk W (w.heap.size + 1) 105 [.int .i64 b, .int .i64 t] := by rw [← hW]; exact Blk.two w 89 105 [.slice V vals.length q1, .slice M miss.length q2] [.int .i64 b, .int .i64 t]
  rw [hW]
  clear hW
  obtain ⟨p, hp⟩ : ∃ p, w.heap.size + 1 = p := ⟨_, rfl⟩
  rw [hp] at hR ⊢
  have hsW := hs.bel hwW
  have hrW := hr.bel hwW
  have hxl := hX.lt
  have hrl := hR.lt
  have c0 := hX.cell 0; have c1 := hX.cell 1; simp only [List.getElem?_cons_zero, List.getElem?_cons_succ] at c0 c1
  have r0 := hR.cell 0; have r1 := hR.cell 1; simp only [List.getElem?_cons_zero, List.getElem?_cons_succ] at r0 r1
  clear hX hR hp hs hr
  go_region_held3 (fun w' => (∀ b o, b < W.heap.size → w'.cell? ⟨b, o, none⟩ = W.cell? ⟨b, o, none⟩) ∧ Below W.heap.size W w')
    (first | with_reducible exact kp_refl W | with_reducible exact kp HB1.out | with_reducible exact kp HB2.out | with_reducible exact kp HB3.out | with_reducible exact kp (bel_alloc HB3.out HB3.out.size _))
    (first
      | (go_at_call 120; refine (HLE.out _ (hsW.drewN 1) (hrW.drewN 1)).mono ?_; rintro e w1 ⟨rfl, hb1⟩; have HB1 := hide (bel_tr ((Below.refl W.heap.size W).drew) (Nat.le_refl _) hb1))
      | (go_at_call 121; refine (HLG.out _).mono ?_; rintro e w2 ⟨rfl, hb2⟩; have HB2 := hide (bel_tr HB1.out HB1.out.size hb2))
      | (go_at_call 124; refine (ruleError_c _ _ _).mono ?_; rintro e w3 ⟨rfl, hb3⟩; have HB3 := hide (bel_tr HB2.out HB2.out.size hb3))
      | (go_at_call 92; refine (firstError_3 _ _ _ _).mono ?_; rintro e_ w_ ⟨rfl, rfl⟩))
  rw [HF.out]
  obtain ⟨w4, hw4⟩ : ∃ w4, w3.alloc (.cells #[.int .i64 (lineE vals miss), .int .i64 (lagE vals.length lag), .int .i64 (ruE b t)] 25) = w4 := ⟨_, rfl⟩
  have hB4 : Below W.heap.size W w4 := by rw [← hw4]; exact bel_alloc HB3.out HB3.out.size _
  rw [hw4]
  clear hw4 HB1 HB2 HB3 HF HLE HLG
  have k4 := (kp hB4).1
  generalize lineE vals miss = ea
  generalize lagE vals.length lag = eb
  generalize ruE b t = ec
  generalize anE vals miss lag b t = E at e1 ⊢
  go_wp2_with (first | (go_at_call 125; refine (HAN.out _ (hsW.bel hB4) (hrW.bel hB4)).mono ?_; rintro e w5 ⟨rfl, hb5⟩; have hB5 := bel_tr hB4 hB4.size hb5))
  go_ret2
  exact ⟨rfl, bel_tr hwW hwW.size hB5⟩
end Go.Proofs.YthkmeaibppkhmaaDoor
