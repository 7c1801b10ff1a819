/- Contracts: the reference's error of a series, its copy of a packed one. -/
import Derived.Test.YtmdmkmfemhkfgaaE42
set_option linter.unusedSimpArgs false
set_option linter.unusedVariables false
set_option linter.unusedSimpArgs false
set_option linter.unusedVariables false
namespace Go.Proofs.Ytmdmkmfemhkfgaa
open Go.RowKit
set_option maxRecDepth 100000

theorem serE_many {l : List Int} (h : 200 < l.length) : serE l = 8 := by
  unfold serE slenE
  rw [decide_eq_true (show (200 : Int) < (l.length : Int) by omega)]
  simp [firstE, errIf]
theorem serE_some {l : List Int} {k : Nat} (hl : l.length ≤ 200) (hk : k < l.length) (h0 : ∀ j (h : j < l.length), j < k → outB l[j] (-1000000000) 1000000000 = false) (h1 : outB l[k] (-1000000000) 1000000000 = true) : serE l = 2 := by
  unfold serE slenE
  rw [decide_eq_false (show ¬ (200 : Int) < (l.length : Int) by omega)]
  rw [firstBadFrom_some _ l 0 k hk (fun i hi => by rw [h0 i (by omega) hi]; rfl) (by rw [h1]; decide)]
  rw [h1]
  simp [firstE, errIf]
theorem serE_none {l : List Int} (hl : l.length ≤ 200) (h0 : ∀ j (h : j < l.length), outB l[j] (-1000000000) 1000000000 = false) : serE l = 0 := by
  unfold serE slenE
  rw [decide_eq_false (show ¬ (200 : Int) < (l.length : Int) by omega)]
  rw [firstBadFrom_none _ l 0 (fun i hi => by rw [h0 i hi]; rfl)]
  simp [firstE, errIf]
theorem refSeriesErr_c (A : Option Addr) (c : Nat) (l : List Int) (w : World) (hr : Rd w A (ints l)) (hl : l.length ≤ maxLen) :
    Calls Try.prog 33 #[.slice A l.length c] w fun e w' => e = .returned (.int .i64 (serE l)) ∧ Below w.heap.size w w' := by
  unfold maxLen at hl
  by_cases hm : 200 < l.length
  · have e1 : decide ((200 : Int) < (l.length : Int)) = true := decide_eq_true (by omega)
    have e2 : (200 : Int) < (l.length : Int) := by omega
    have HR := hide (serE_many hm)
    clear hm
    go_enter Try.func33, Try.ntmps33
    go_wp2
    go_ret
    exact ⟨by rw [HR.out]; rfl, Below.refl _ _⟩
  · have e1 : decide ((200 : Int) < (l.length : Int)) = false := decide_eq_false (by omega)
    have e2 : ¬ (200 : Int) < (l.length : Int) := by omega
    have hm' : l.length ≤ 200 := by omega
    clear hm
    go_enter Try.func33, Try.ntmps33
    go_wp2
    go_loopw [3] (fun i wr => ∃ k : Nat, k ≤ l.length ∧ i = .int .i64 k ∧ Below w.heap.size w wr ∧ Hid (∀ j (h : j < l.length), j < k → outB l[j] (-1000000000) 1000000000 = false)) (fun i _ => l.length - (intOf i).toNat)
    case atStart => exact ⟨0, Nat.zero_le _, rfl, Below.refl _ _, fun _ _ h => by omega⟩
    case round =>
      obtain ⟨k, hk, rfl, hbr, h0⟩ := hrel
      by_cases hlt : k < l.length
      · obtain ⟨b, off, rfl, hblt, x0⟩ := (hr.bel hbr).int_at hlt
        have iL : (k : Int) < (l.length : Int) := by omega
        cases hob : outB l[k] (-1000000000) 1000000000
        · have H1 : Hid (∀ j (h : j < l.length), j < k + 1 → outB l[j] (-1000000000) 1000000000 = false) := fun j h hj => by
            by_cases e : j = k
            · subst e; exact hob
            · exact h0.out j h (by omega)
          generalize l[k] = x at x0 hob
          go_wp2_with (first | (go_at_call 23; refine (within_c _ _ _ _).mono ?_; rintro e_ w_ ⟨rfl, rfl⟩; rw [hob]))
          first
            | exact ⟨⟨k + 1, by omega, by go_num, hbr, H1⟩, by simp [intOf]; omega⟩
            | (go_roundw
               case rel => exact ⟨k + 1, by omega, by go_num, hbr, H1⟩
               case measure => simp [intOf]; omega)
        · have H1 := hide (serE_some hm' hlt h0.out hob)
          generalize l[k] = x at x0 hob
          go_wp2_with (first | (go_at_call 23; refine (within_c _ _ _ _).mono ?_; rintro e_ w_ ⟨rfl, rfl⟩; rw [hob]))
          go_ret
          exact ⟨by rw [H1.out]; rfl, hbr⟩
      · obtain rfl : k = l.length := by omega
        have H1 := hide (serE_none hm' (fun j h => h0.out j h h))
        go_wp2
        go_ret
        exact ⟨by rw [H1.out]; rfl, hbr⟩
set_option maxHeartbeats 1000000 in
theorem copyPacked_c (way : Int) (A : Option Addr) (c : Nat) (l : List Int) (w : World) (hr : Rd w A (ints l)) (hl : l.length ≤ 1000) :
    Calls Try.prog 30 #[.agg #[.int .i64 way, .slice A l.length c]] w fun r w' => (∃ A' c', r = .returned (.agg #[.int .i64 way, .slice A' l.length c']) ∧ Rd w' A' (ints l) ∧ l.length ≤ c') ∧ Below w.heap.size w w' := by
  obtain ⟨W0, hW0⟩ : ∃ W0, (w.alloc (.cells #[.int .i64 way, .slice A l.length c] 54)).alloc (.cells #[.int .i64 0, .slice none 0 0] 54) = W0 := ⟨_, rfl⟩
  obtain ⟨p, hp⟩ : ∃ p, w.heap.size = p := ⟨_, rfl⟩
  have hX0 : Blk W0 p 54 [.int .i64 way, .slice A l.length c] := by rw [← hW0, ← hp]; exact (two_new w _ _ [_, _] [_, _]).1
  have hR0 : Blk W0 (p + 1) 54 [.int .i64 0, .slice none 0 0] := by rw [← hW0, ← hp]; exact (two_new w _ _ [_, _] [_, _]).2.1
  have hB0 : Below p w W0 := by rw [← hW0, ← hp]; exact (two_new w _ _ [_, _] [_, _]).2.2
  have hr0 := hr.bel (by rw [hp]; exact hB0)
  have HCI := hide (fun W (h : Rd W A (ints l)) => copyInts_cap l A c W h (by omega))
  have HW := hide hW0
  clear hW0 hr
  have c0 := hX0.cell 0; have c1 := hX0.cell 1; simp only [List.getElem?_cons_zero, List.getElem?_cons_succ] at c0 c1
  have z0 := hR0.lt
  go_enter Try.func30, Try.ntmps30
  go_upto_region 1 with fail
  rw [HW.out]
  refine wp_region_held (S := fun w' => w'.cell? ⟨p, 0, none⟩ = some (.int .i64 way) ∧ w'.cell? ⟨p, 1, none⟩ = some (.slice A l.length c)) (by kernel_rfl) ?_
  have hSd : W0.drew.cell? ⟨p, 0, none⟩ = some (.int .i64 way) ∧ W0.drew.cell? ⟨p, 1, none⟩ = some (.slice A l.length c) := ⟨c0, c1⟩
  change wpAnyH _ _ _ _ _ _ _ _ W0.drew
  clear c0 c1
  refine wpAnyH_take (i := 0) (v := ?_) rfl (by kernel_rfl) (by kernel_rfl) (by kernel_rfl) (fun _ _ _ h => h) (Or.inl ⟨by kernel_rfl, ?_⟩) (by assumption) ?_
  rotate_left 1
  · (intro w hSw; obtain ⟨hk1, hk2⟩ := hSw; go_simp <;> with_reducible rfl)
  simp only [Act.put, List.getElem_toArray, List.getElem_cons_zero, List.setIfInBounds_toArray, List.set_cons_zero, List.set_cons_succ]
  refine wpAnyH_take (i := 1) (v := ?_) rfl (by kernel_rfl) (by kernel_rfl) (by kernel_rfl) (fun _ _ _ h => h) (Or.inl ⟨by kernel_rfl, ?_⟩) (by assumption) ?_
  rotate_left 1
  · (intro w hSw; obtain ⟨hk1, hk2⟩ := hSw; go_simp <;> with_reducible rfl)
  simp only [Act.put, List.getElem_toArray, List.getElem_cons_zero, List.getElem_cons_succ, List.setIfInBounds_toArray, List.set_cons_zero, List.set_cons_succ]
  refine wpAnyH_take (i := 2) (v := ?_) rfl (by kernel_rfl) (by kernel_rfl) (by kernel_rfl) (fun _ _ _ h => h) (Or.inl ⟨by kernel_rfl, ?_⟩) (by assumption) ?_
  rotate_left 1
  · (intro w hSw; obtain ⟨hk1, hk2⟩ := hSw; go_simp <;> with_reducible rfl)
  simp only [Act.put, List.getElem_toArray, List.getElem_cons_zero, List.getElem_cons_succ, List.setIfInBounds_toArray, List.set_cons_zero, List.set_cons_succ]
  refine wpAnyH_take (i := 3) (v := ?_) rfl (by kernel_rfl) (by kernel_rfl) (by kernel_rfl) (fun _ _ _ h => h) (Or.inl ⟨by kernel_rfl, ?_⟩) (by assumption) ?_
  rotate_left 1
  · (intro w hSw; obtain ⟨hk1, hk2⟩ := hSw; go_simp <;> with_reducible rfl)
  simp only [Act.put, List.getElem_toArray, List.getElem_cons_zero, List.getElem_cons_succ, List.setIfInBounds_toArray, List.set_cons_zero, List.set_cons_succ]
  refine nextH (i := 4) (by kernel_rfl) rfl (fun K hK => ?_)
  go_simp
  refine (HCI.out _ (hr0.bel (Below.refl _ _).drew)).mono ?_
  rintro e_ w5 ⟨⟨A5, c5, rfl, ra5, rk5⟩, hb5⟩
  replace rk5 := hide rk5
  have hb05 : Below W0.heap.size W0 w5 := bel_tr (Below.refl _ _).drew (Nat.le_refl _) hb5
  have hX5 := hX0.bel hb05
  have hR5 := hR0.bel hb05
  have hB5 : Below p w w5 := bel_tr hB0 (by omega) hb05
  try dsimp only
  refine hK _ _ ⟨hX5.cell 0, hX5.cell 1⟩ ?_
  clear hK K hSd
  have hSd : w5.cell? ⟨p, 0, none⟩ = some (.int .i64 way) ∧ w5.cell? ⟨p, 1, none⟩ = some (.slice A l.length c) := ⟨hX5.cell 0, hX5.cell 1⟩
  refine nextH (i := 5) (by kernel_rfl) rfl (fun K hK => ?_)
  go_simp
  refine hK _ _ hSd ?_
  clear hK K
  have r0 := hR5.frozen 0
  have r1 := hR5.frozen 1
  have r2 := hR5.cell 0
  have r3 := hR5.cell 1
  have r4 := hR5.lt
  simp only [List.getElem?_cons_zero, List.getElem?_cons_succ] at r2 r3
  refine nextH (i := 6) (by kernel_rfl) rfl (fun K hK => ?_)
  go_simp
  have hBE : Below p w ((w5.setCell ⟨p + 1, 0, none⟩ (.int .i64 way)).setCell ⟨p + 1, 1, none⟩ (.slice A5 l.length c5)) := (hB5.setCell (by show p ≤ p + 1; omega) _).setCell (by show p ≤ p + 1; omega) _
  have hRE := (hR5.set_ 0 (.int .i64 way)).set_ 1 (.slice A5 l.length c5)
  have hXE := (hX5.far (p := ⟨p + 1, 0, none⟩) (by show p ≠ p + 1; omega) (.int .i64 way)).far (p := ⟨p + 1, 1, none⟩) (by show p ≠ p + 1; omega) (.slice A5 l.length c5)
  have hrE := ((ra5.set hR5 (by decide) 0 (.int .i64 way)).set (hR5.set_ 0 (.int .i64 way)) (by decide) 1 (.slice A5 l.length c5)).1
  generalize (w5.setCell ⟨p + 1, 0, none⟩ (.int .i64 way)).setCell ⟨p + 1, 1, none⟩ (.slice A5 l.length c5) = WE at hBE hRE hXE hrE ⊢
  refine hK _ _ ⟨hXE.cell 0, hXE.cell 1⟩ ?_
  clear hK K
  refine wpAnyH_done (by kernel_rfl) ?_ _
  have v0 := hRE.cell 0
  have v1 := hRE.cell 1
  simp only [List.set_cons_zero, List.set_cons_succ, List.getElem?_cons_zero, List.getElem?_cons_succ] at v0 v1
  go_wp2
  exact bodyPost_ret (v := .agg #[.int .i64 way, .slice A5 l.length c5]) (by simp [results, Try.results30, go_sem, v0, v1]; try rfl) rfl ⟨⟨A5, c5, rfl, hrE, rk5.out⟩, by first | exact hBE | (rw [hp]; exact hBE)⟩
end Go.Proofs.Ytmdmkmfemhkfgaa
