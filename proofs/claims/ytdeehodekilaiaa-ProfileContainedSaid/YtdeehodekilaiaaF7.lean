/- Contracts: virtual heights. -/
import Derived.Test.YtdeehodekilaiaaF6
set_option linter.unusedSimpArgs false
set_option linter.unusedVariables false
namespace Go.Proofs.Ytdeehodekilaiaa
open Go.RowKit
set_option maxRecDepth 100000

/-- The answer of VirtualAt. -/
def virtR (base : Int) (l : List G) (f : Int) : G × Int :=
  if firstE [(proE base l).2, freqE f] = 0 then (if passN l f = l.length then ((0, 0), 21) else (virt base l f, 0)) else ((0, 0), firstE [(proE base l).2, freqE f])
def rangeV (g : G) (e : Int) : Value := .tuple #[.agg #[.int .i64 g.1, .int .i64 g.2], .int .i64 e]

theorem reflectedAt_c (base f : Int) (A : Option Addr) (c : Nat) (l : List G) (w : World) (hr : Rd w A (gs l)) (hl : l.length ≤ 1000) :
    Calls Try.prog 16 #[.agg #[.int .i64 base, .slice A l.length c], .int .i64 f] w fun r w' =>
      r = .returned (.tuple #[.int .i64 (reflR base l f).1, .int .i64 (reflR base l f).2.1, .int .i64 (reflR base l f).2.2]) ∧ Below w.heap.size w w' := by
  by_cases he : firstE [(proE base l).2, freqE f] = 0
  · have hE := firstE_cons_zero.1 he
    have hF := freqE_zero.1 (firstE_cons_zero.1 hE.2).1
    refine (reflectedAt_ok base f A c l w hr (proE_zero hE.1) hF.1 hF.2).mono ?_
    rintro e w' ⟨rfl, hb⟩
    refine ⟨?_, hb⟩
    unfold reflV reflR
    rw [if_pos he]
    split <;> rfl
  · refine (reflectedAt_bad base f A c l w hr hl he).mono ?_
    rintro e w' ⟨rfl, hb⟩
    refine ⟨?_, hb⟩
    unfold reflR
    rw [if_neg he]

theorem cell_set2 {W : World} {g q i : Nat} {u v x : Value} (h : W.cell? ⟨q, i, none⟩ = some x) (hne : q ≠ g) : ((W.setCell ⟨g, 0, none⟩ u).setCell ⟨g, 1, none⟩ v).cell? ⟨q, i, none⟩ = some x :=
  (World.cell?_of_block (Below.heap_setCell _ ⟨g, 1, none⟩ v _ hne)).trans ((World.cell?_of_block (Below.heap_setCell _ ⟨g, 0, none⟩ u _ hne)).trans h)

set_option maxHeartbeats 1000000 in
theorem virtualAt_bad (base f : Int) (A : Option Addr) (c : Nat) (l : List G) (w : World) (hr : Rd w A (gs l)) (hl : l.length ≤ 1000) (he : (reflR base l f).2.2 ≠ 0) :
    Calls Try.prog 17 #[.agg #[.int .i64 base, .slice A l.length c], .int .i64 f] w fun r w' =>
      r = .returned (rangeV (0, 0) (reflR base l f).2.2) ∧ Below w.heap.size w w' := by
  obtain ⟨W0, hW0⟩ : ∃ W0, (w.alloc (.cells #[.int .i64 base, .slice A l.length c] 24)).alloc (.cells #[.int .i64 0, .int .i64 0] 51) = W0 := ⟨_, rfl⟩
  obtain ⟨p, hp⟩ : ∃ p, w.heap.size = p := ⟨_, rfl⟩
  have hX0 : Blk W0 p 24 [.int .i64 base, .slice A l.length c] := by rw [← hW0, ← hp]; exact (Blk.new w _ [_, _]).bel (alloc_bel _ _)
  have hR0 : Blk W0 (p + 1) 51 [.int .i64 0, .int .i64 0] := by rw [← hW0, ← hp]; have := Blk.new (w.alloc (.cells #[.int .i64 base, .slice A l.length c] 24)) 51 [.int .i64 0, .int .i64 0]; simpa using this
  have hB0 : Below p w W0 := by rw [← hW0, ← hp]; exact bel_alloc (alloc_bel w _) (by simp) _
  have HW := hide hW0
  have hr0 := hr.bel (by rw [hp]; exact hB0)
  have hz0 := hR0.lt
  clear hW0 hr
  have c0 := hX0.cell 0; have c1 := hX0.cell 1; simp only [List.getElem?_cons_zero, List.getElem?_cons_succ] at c0 c1
  have HC := hide (fun W h => reflectedAt_c base f A c l W h hl)
  have e1 : ((reflR base l f).2.2 != 0) = true := by simpa using he
  clear he
  generalize (reflR base l f).2.2 = E at HC e1 ⊢
  generalize (reflR base l f).1 = x at HC
  generalize (reflR base l f).2.1 = y at HC
  go_enter Try.func17, Try.ntmps17
  go_upto_region 1 with fail
  rw [HW.out]
  go_wp2_with (first | (go_at_call 16; refine (HC.out _ hr0).mono ?_; rintro e w1 ⟨rfl, hb1⟩; have hR1 := hR0.bel hb1; have k0 := hR1.cell 0; have k1 := hR1.cell 1; have k2 := hR1.frozen 0; have k3 := hR1.frozen 1; simp only [List.getElem?_cons_zero, List.getElem?_cons_succ] at k0 k1))
  obtain ⟨WE, hWE⟩ : ∃ WE, (w1.setCell ⟨p + 1, 0, none⟩ (.int .i64 0)).setCell ⟨p + 1, 1, none⟩ (.int .i64 0) = WE := ⟨_, rfl⟩
  rw [hWE]
  have hE : Blk WE (p + 1) 51 [.int .i64 0, .int .i64 0] := by rw [← hWE]; exact (hR1.set_ 0 _).set_ 1 _
  have hBE : Below p w WE := by rw [← hWE]; exact ((bel_tr hB0 (by omega) hb1).setCell (by show p ≤ p + 1; omega) _).setCell (by show p ≤ p + 1; omega) _
  clear hWE
  have g0 := hE.cell 0; have g1 := hE.cell 1; simp only [List.getElem?_cons_zero, List.getElem?_cons_succ] at g0 g1
  exact bodyPost_ret (v := rangeV (0, 0) E) (by simp [results, Try.results17, go_sem, g0, g1]; rfl) rfl ⟨rfl, by rw [hp]; exact hBE⟩

set_option maxHeartbeats 1000000 in
theorem virtualAt_ok (base f : Int) (A : Option Addr) (c : Nat) (l : List G) (w : World) (hr : Rd w A (gs l)) (hP : Pro base l) (h1 : 1 ≤ f) (h2 : f ≤ 3000) (hn : passN l f ≠ l.length) :
    Calls Try.prog 17 #[.agg #[.int .i64 base, .slice A l.length c], .int .i64 f] w fun r w' =>
      r = .returned (rangeV (virt base l f) 0) ∧ Below w.heap.size w w' := by
  obtain ⟨W0, hW0⟩ : ∃ W0, (w.alloc (.cells #[.int .i64 base, .slice A l.length c] 24)).alloc (.cells #[.int .i64 0, .int .i64 0] 51) = W0 := ⟨_, rfl⟩
  obtain ⟨p, hp⟩ : ∃ p, w.heap.size = p := ⟨_, rfl⟩
  have hX0 : Blk W0 p 24 [.int .i64 base, .slice A l.length c] := by rw [← hW0, ← hp]; exact (Blk.new w _ [_, _]).bel (alloc_bel _ _)
  have hR0 : Blk W0 (p + 1) 51 [.int .i64 0, .int .i64 0] := by rw [← hW0, ← hp]; have := Blk.new (w.alloc (.cells #[.int .i64 base, .slice A l.length c] 24)) 51 [.int .i64 0, .int .i64 0]; simpa using this
  have hB0 : Below p w W0 := by rw [← hW0, ← hp]; exact bel_alloc (alloc_bel w _) (by simp) _
  have HW := hide hW0
  have hr0 := hr.bel (by rw [hp]; exact hB0)
  have hz0 := hR0.lt
  clear hW0 hr
  have c0 := hX0.cell 0; have c1 := hX0.cell 1; simp only [List.getElem?_cons_zero, List.getElem?_cons_succ] at c0 c1
  have hl : l.length ≤ 1000 := by have := hP.n1; omega
  have HC := hide (fun W h => reflectedAt_c base f A c l W h hl)
  have HD := hide (fun W h => delayOf_c base f A c l W h hP.slabs h1 h2)
  have he : firstE [(proE base l).2, freqE f] = 0 := by rw [hP.err, freqE_zero.2 ⟨h1, h2⟩]; rfl
  have e0 : (reflR base l f).2.2 = 0 := by unfold reflR; rw [if_pos he, if_neg hn]
  rw [e0] at HC
  obtain ⟨d1, d2, d3, _⟩ := dly_bd hP.slabs h1 h2 (Nat.le_refl (passN l f))
  have hpn := passN_le l f
  have hpl := hP.n1
  have HV : Hid (virt base l f = ((dly base l f (passN l f)).1 / 1000, up (dly base l f (passN l f)).2 1000)) := rfl
  clear he e0 hn
  generalize (dly base l f (passN l f)).1 = dlo at HD d1 d2 HV
  generalize (dly base l f (passN l f)).2 = dhi at HD d2 d3 HV
  generalize (reflR base l f).1 = x at HC
  generalize (reflR base l f).2.1 = y at HC
  have HU := hide (fun W => dividedUp_c dhi 1000 W (by omega) (by omega) (by omega) (by omega))
  go_enter Try.func17, Try.ntmps17
  go_upto_region 1 with fail
  rw [HW.out]
  go_upto_region 5 with (first
    | (go_at_call 16; refine (HC.out _ hr0).mono ?_; rintro e w1 ⟨rfl, hb1⟩; have hX1 := hX0.bel hb1; have hr1 := hr0.bel hb1; have hR1 := hR0.bel hb1; have y0 := hX1.cell 0; have y1 := hX1.cell 1; simp only [List.getElem?_cons_zero, List.getElem?_cons_succ] at y0 y1)
    | (go_at_call 44; refine (HD.out _ hr1).mono ?_; rintro e w2 ⟨rfl, hb2⟩))
  obtain ⟨q, hq⟩ : ∃ q, w2.heap.size = q := ⟨_, rfl⟩
  obtain ⟨W3, hW3⟩ : ∃ W3, w2.alloc (.cells #[.int .i64 dlo, .int .i64 dhi] 51) = W3 := ⟨_, rfl⟩
  have hQ3 : Blk W3 q 51 [.int .i64 dlo, .int .i64 dhi] := by rw [← hW3, ← hq]; exact Blk.new w2 _ [_, _]
  have hR3 : Blk W3 (p + 1) 51 [.int .i64 0, .int .i64 0] := by rw [← hW3]; exact (hR1.bel hb2).bel (alloc_bel _ _)
  have hB3 : Below p w W3 := by rw [← hW3]; exact bel_alloc (bel_tr (bel_tr hB0 (by omega) hb1) (by have := hb1.size; omega) hb2) (by have := hb1.size; have := hb2.size; omega) _
  have hpq : p + 1 < q := by have := hb1.size; have := hb2.size; omega
  rw [hW3, hq]
  clear hW3 hR1 hr1 hX1 hr0 hX0 hR0 y0 y1 c0 c1 HW HC HD hb1 hb2 hq
  have x0 := hQ3.cell 0
  have x1 := hQ3.cell 1
  have k0 := hR3.cell 0
  have k1 := hR3.cell 1
  have k2 := hR3.frozen 0
  have k3 := hR3.frozen 1
  simp only [List.getElem?_cons_zero, List.getElem?_cons_succ] at x0 x1 k0 k1
  have u1 : IntKind.i64.wrap (dlo.tdiv 1000) = dlo / 1000 := by rw [Int.tdiv_eq_ediv_of_nonneg d1]; simp (disch := omega) only [IntWalk.i64_in]
  go_region_held3 (fun w' => w'.cell? ⟨q, 0, none⟩ = some (.int .i64 dlo) ∧ w'.cell? ⟨q, 1, none⟩ = some (.int .i64 dhi))
    (first | exact ⟨x0, x1⟩ | exact ⟨cell_set2 x0 (by omega), cell_set2 x1 (by omega)⟩)
    (first | (go_at_call 45; refine (HU.out _).mono ?_; rintro e_ w_ ⟨rfl, rfl⟩))
  go_wp2
  obtain ⟨WE, hWE⟩ : ∃ WE, ((W3.setCell ⟨p + 1, 0, none⟩ (.int .i64 (dlo / 1000))).setCell ⟨p + 1, 1, none⟩ (.int .i64 (up dhi 1000))).drew = WE := ⟨_, rfl⟩
  rw [hWE]
  have hE : Blk WE (p + 1) 51 [.int .i64 (dlo / 1000), .int .i64 (up dhi 1000)] := by rw [← hWE]; exact (hR3.set_ 0 _).set_ 1 _
  have hBE : Below p w WE := by rw [← hWE]; exact ((hB3.setCell (by show p ≤ p + 1; omega) _).setCell (by show p ≤ p + 1; omega) _).drew
  clear hWE
  have g0 := hE.cell 0; have g1 := hE.cell 1; simp only [List.getElem?_cons_zero, List.getElem?_cons_succ] at g0 g1
  exact bodyPost_ret (v := rangeV (dlo / 1000, up dhi 1000) 0) (by simp [results, Try.results17, go_sem, g0, g1]; rfl) rfl ⟨by rw [HV.out], by rw [hp]; exact hBE⟩

theorem virtualAt_c (base f : Int) (A : Option Addr) (c : Nat) (l : List G) (w : World) (hr : Rd w A (gs l)) (hl : l.length ≤ 1000) :
    Calls Try.prog 17 #[.agg #[.int .i64 base, .slice A l.length c], .int .i64 f] w fun r w' =>
      r = .returned (rangeV (virtR base l f).1 (virtR base l f).2) ∧ Below w.heap.size w w' := by
  by_cases he : firstE [(proE base l).2, freqE f] = 0
  · have hE := firstE_cons_zero.1 he
    have hF := freqE_zero.1 (firstE_cons_zero.1 hE.2).1
    by_cases hn : passN l f = l.length
    · have e : (reflR base l f).2.2 = 21 := by unfold reflR; rw [if_pos he, if_pos hn]
      refine (virtualAt_bad base f A c l w hr hl (by rw [e]; decide)).mono ?_
      rintro r w' ⟨rfl, hb⟩
      exact ⟨by rw [e]; unfold virtR; rw [if_pos he, if_pos hn], hb⟩
    · refine (virtualAt_ok base f A c l w hr (proE_zero hE.1) hF.1 hF.2 hn).mono ?_
      rintro r w' ⟨rfl, hb⟩
      exact ⟨by unfold virtR; rw [if_pos he, if_neg hn], hb⟩
  · have e : (reflR base l f).2.2 = firstE [(proE base l).2, freqE f] := by unfold reflR; rw [if_neg he]
    refine (virtualAt_bad base f A c l w hr hl (by rw [e]; exact he)).mono ?_
    rintro r w' ⟨rfl, hb⟩
    exact ⟨by rw [e]; unfold virtR; rw [if_neg he], hb⟩
end Go.Proofs.Ytdeehodekilaiaa
