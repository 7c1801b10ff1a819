/- Contracts: the check of a plan, whole. -/
import Derived.Test.YtmdmkmfemhkfgaaE26
set_option linter.unusedSimpArgs false
set_option linter.unusedVariables false
set_option linter.unusedSimpArgs false
set_option linter.unusedVariables false
namespace Go.Proofs.Ytmdmkmfemhkfgaa
open Go.RowKit
set_option maxRecDepth 100000

theorem planHead_zero {n : Int} {l : List G} {m : Nat} (h : planHead n l m = 0) : Net n l ∧ (m : Int) = n := by
  unfold planHead at h
  obtain ⟨h1, h2⟩ := firstE_2 h
  have h3 := errIf_zero (by decide) h2
  exact ⟨netE_zero h1, by simpa using h3⟩
set_option maxHeartbeats 4000000 in
theorem checkPlan_c (n : Int) (A B : Option Addr) (c d : Nat) (l : List G) (slots : List Int) (w : World) (hr : Rd w A (gs l)) (hs : Rd w B (ints slots)) (hl : l.length ≤ 1000) (hc : l.length ≤ c) (hm : slots.length ≤ 1000) :
    Calls Try.prog 38 #[.agg #[.int .i64 n, .slice A l.length c], .slice B slots.length d] w fun r w' => r = .returned (.tuple #[.int .i64 (planE n l slots).1, .int .i64 (planE n l slots).2]) ∧ Below w.heap.size w w' := by
  obtain ⟨p, hp⟩ : ∃ p, w.heap.size = p := ⟨_, rfl⟩
  obtain ⟨W, hW⟩ : ∃ W, (w.alloc (.cells #[.int .i64 n, .slice A l.length c] 71)).alloc (.cells #[.slice B slots.length d] 47) = W := ⟨_, rfl⟩
  have k2 := two_new w 71 47 [.int .i64 n, .slice A l.length c] [.slice B slots.length d]
  have hX : Blk W p 71 [.int .i64 n, .slice A l.length c] := by rw [← hW, ← hp]; exact k2.1
  have hV : Blk W (p + 1) 47 [.slice B slots.length d] := by rw [← hW, ← hp]; exact k2.2.1
  have hB : Below p w W := by rw [← hW, ← hp]; exact k2.2.2
  have hrW : Rd W A (gs l) := hr.bel (by rw [hp]; exact hB)
  have hsW : Rd W B (ints slots) := hs.bel (by rw [hp]; exact hB)
  have HN := hide (fun W' (hb : Below W.heap.size W W') => netError_c n A c l W' (hrW.bel hb) hl hc)
  have HW := hide hW
  clear hW k2 hr hs
  have x0 := hX.cell 0
  have x1 := hX.cell 1
  have y0 := hV.cell 0
  simp only [List.getElem?_cons_zero, List.getElem?_cons_succ] at x0 x1 y0
  have hzX := hX.lt
  have hzV := hV.lt
  have HH : Hid (planHead n l slots.length = firstE [(netE n l).2, errIf ((slots.length : Int) != n) 10]) := rfl
  generalize (netE n l).2 = ne at HN HH
  go_enter Try.func38, Try.ntmps38
  go_upto_region 1 with fail
  try rw [hp]
  rw [HW.out]
  have hSd : (∀ b o, b < W.heap.size → W.drew.cell? ⟨b, o, none⟩ = W.cell? ⟨b, o, none⟩) ∧ Below W.heap.size W W.drew := kp (Below.refl _ _).drew
  refine wp_region_held (S := fun w' => (∀ b o, b < W.heap.size → w'.cell? ⟨b, o, none⟩ = W.cell? ⟨b, o, none⟩) ∧ Below W.heap.size W w') (by kernel_rfl) ?_
  change wpAnyH _ _ _ _ _ _ _ _ W.drew
  refine wpAnyH_take (i := 0) (v := ?_) rfl (by kernel_rfl) (by kernel_rfl) (by kernel_rfl) (fun _ _ _ h => h) (Or.inl ⟨by kernel_rfl, ?_⟩) (by assumption) ?_
  rotate_left 1
  · (intro w hSw; obtain ⟨hk1, hk2⟩ := hSw; go_simp <;> with_reducible rfl)
  simp only [Act.put, List.getElem_toArray, List.getElem_cons_zero, List.setIfInBounds_toArray, List.set_cons_zero, List.set_cons_succ]
  refine wpAnyH_take (i := 2) (v := ?_) rfl (by kernel_rfl) (by kernel_rfl) (by kernel_rfl) (fun _ _ _ h => h) (Or.inl ⟨by kernel_rfl, ?_⟩) (by assumption) ?_
  rotate_left 1
  · (intro w hSw; obtain ⟨hk1, hk2⟩ := hSw; go_simp <;> with_reducible rfl)
  simp only [Act.put, List.getElem_toArray, List.getElem_cons_zero, List.getElem_cons_succ, List.setIfInBounds_toArray, List.set_cons_zero, List.set_cons_succ]
  refine wpAnyH_take (i := 3) (v := ?_) rfl (by kernel_rfl) (by kernel_rfl) (by kernel_rfl) (fun _ _ _ h => h) (Or.inl ⟨by kernel_rfl, ?_⟩) (by assumption) ?_
  rotate_left 1
  · (intro w hSw; obtain ⟨hk1, hk2⟩ := hSw; go_simp <;> with_reducible rfl)
  simp only [Act.put, List.getElem_toArray, List.getElem_cons_zero, List.getElem_cons_succ, List.setIfInBounds_toArray, List.set_cons_zero, List.set_cons_succ]
  refine wpAnyH_take (i := 4) (v := ?_) rfl (by kernel_rfl) (by kernel_rfl) (by kernel_rfl) (fun _ _ _ h => h) (Or.inl ⟨by kernel_rfl, ?_⟩) (by assumption) ?_
  rotate_left 1
  · (intro w hSw; obtain ⟨hk1, hk2⟩ := hSw; go_simp <;> with_reducible rfl)
  simp only [Act.put, List.getElem_toArray, List.getElem_cons_zero, List.getElem_cons_succ, List.setIfInBounds_toArray, List.set_cons_zero, List.set_cons_succ]
  refine wpAnyH_take (i := 5) (v := ?_) rfl (by kernel_rfl) (by kernel_rfl) (by kernel_rfl) (fun _ _ _ h => h) (Or.inl ⟨by kernel_rfl, ?_⟩) (by assumption) ?_
  rotate_left 1
  · (intro w hSw; obtain ⟨hk1, hk2⟩ := hSw; go_simp <;> with_reducible rfl)
  simp only [Act.put, List.getElem_toArray, List.getElem_cons_zero, List.getElem_cons_succ, List.setIfInBounds_toArray, List.set_cons_zero, List.set_cons_succ]
  refine wpAnyH_take (i := 6) (v := ?_) rfl (by kernel_rfl) (by kernel_rfl) (by kernel_rfl) (fun _ _ _ h => h) (Or.inl ⟨by kernel_rfl, ?_⟩) (by assumption) ?_
  rotate_left 1
  · (intro w hSw; obtain ⟨hk1, hk2⟩ := hSw; go_simp <;> with_reducible rfl)
  simp only [Act.put, List.getElem_toArray, List.getElem_cons_zero, List.getElem_cons_succ, List.setIfInBounds_toArray, List.set_cons_zero, List.set_cons_succ]
  refine nextH (i := 1) (by kernel_rfl) rfl (fun K hK => ?_)
  go_simp
  refine (HN.out _ hSd.2).mono ?_
  rintro e_ w5 ⟨rfl, hb5⟩
  have hB5 : Below W.heap.size W w5 := bel_tr hSd.2 hSd.2.size hb5
  have hS5 := kp hB5
  try dsimp only
  refine hK _ _ hS5 ?_
  clear hK K hSd hb5
  have hSd := hS5
  clear hS5
  refine nextH (i := 7) (by kernel_rfl) rfl (fun K hK => ?_)
  go_simp
  refine (errorIf_c _ _ _).mono ?_
  rintro e_ w_ ⟨rfl, rfl⟩
  try dsimp only
  refine hK _ _ hSd ?_
  clear hK K
  refine nextH (i := 8) (by kernel_rfl) rfl (fun K hK => ?_)
  go_simp
  have hB6 : Below W.heap.size W (w5.alloc (.cells #[.int .i64 ne, .int .i64 (errIf ((slots.length : Int) != n) 10)] 27)) := bel_alloc hB5 hB5.size _
  have hS6 := kp hB6
  refine hK _ _ hS6 ?_
  clear hK K hSd
  have hSd := hS6
  clear hS6
  refine nextH (i := 9) (by kernel_rfl) rfl (fun K hK => ?_)
  go_simp
  refine (firstError_2 _ _ _).mono ?_
  rintro e_ w_ ⟨rfl, rfl⟩
  try dsimp only
  refine hK _ _ hSd ?_
  clear hK K
  refine nextH (i := 10) (by kernel_rfl) rfl (fun K hK => ?_)
  go_simp
  refine hK _ _ hSd ?_
  clear hK K
  refine wpAnyH_done (by kernel_rfl) ?_ _
  rw [← HH.out]
  generalize (w5.alloc (.cells #[.int .i64 ne, .int .i64 (errIf ((slots.length : Int) != n) 10)] 27)) = W2 at hB6 ⊢
  clear hSd HH HN hB5
  have hb1 : Below p w W2 := bel_tr hB (by omega) hB6
  have hs1 : p ≤ W2.heap.size := by have := hb1.size; omega
  have hr2 := hrW.bel hB6
  have hs2 := hsW.bel hB6
  have hV2 := hV.bel hB6
  have hX2 := hX.bel hB6
  clear x0 x1 y0
  have x0 := hX2.cell 0
  have x1 := hX2.cell 1
  have y0 := hV2.cell 0
  simp only [List.getElem?_cons_zero, List.getElem?_cons_succ] at x0 x1 y0
  have hz2X := hX2.lt
  have hz2V := hV2.lt
  clear hX hV hrW hsW HW
  by_cases h0 : planHead n l slots.length = 0
  · have e1 : (planHead n l slots.length != 0) = false := by simpa using h0
    obtain ⟨hNet, hmn⟩ := planHead_zero h0
    have HI := hide (fun (W' : World) (h : Rd W' B (ints slots)) => firstBadI_c (fun _ s => slotE s) 76 slots B d #[] W' h hm Try.call76 (fun k h W _ => checkPlan1_c _ _ _))
    have HR : Hid (planE n l slots = if (firstBadFrom (fun _ s => slotE s) 0 slots).2 = 0 then firstBadFrom (fun _ p => clashE slots p) 0 l else firstBadFrom (fun _ s => slotE s) 0 slots) := by show _ = _; unfold planE; rw [if_pos h0]
    clear h0
    generalize firstBadFrom (fun _ s => slotE s) 0 slots = fs at HI HR
    obtain ⟨f1, f2⟩ := fs
    dsimp only at HI HR
    by_cases hf : f2 = 0
    · have e2 : (f2 != 0) = false := by simpa using hf
      have HP := hide (fun (W' : World) (h : Rd W' A (gs l)) (h2 : Rd W' B (ints slots)) (hv : Blk W' (p + 1) 47 [.slice B slots.length d]) => firstBadP_c (fun _ p => clashE slots p) 77 l A c #[.pointer (some ⟨p + 1, 0, none⟩)] W' h hl Try.call77 (fun k h W hb => checkPlan2_c _ _ _ slots (p + 1) B d W ((hv.bel hb).cell 0) (h2.bel hb) hm (by have := hNet.pair k h; omega) (by have := hNet.pair k h; omega)))
      have HR2 : Hid (planE n l slots = firstBadFrom (fun _ p => clashE slots p) 0 l) := by show _ = _; rw [HR.out, if_pos hf]
      clear HR hf
      generalize firstBadFrom (fun _ p => clashE slots p) 0 l = gsl at HP HR2
      obtain ⟨g1, g2⟩ := gsl
      dsimp only at HP HR2
      go_wp2_with (first
        | (go_at_call 75; refine (HI.out _ hs2).mono ?_; rintro e_ w7 ⟨rfl, hb7⟩
           have hr3 := hr2.bel hb7
           have hs3 := hs2.bel hb7
           have hV3 := hV2.bel hb7
           have hX3 := hX2.bel hb7
           have x0' := hX3.cell 0
           have x1' := hX3.cell 1
           have y0' := hV3.cell 0
           simp only [List.getElem?_cons_zero, List.getElem?_cons_succ] at x0' x1' y0'
           have hz3X := hX3.lt
           have hz3V := hV3.lt)
        | (go_at_call 70; refine (HP.out _ hr3 hs3 hV3).mono ?_; rintro e_ w8 ⟨rfl, hb8⟩))
      go_ret2
      exact ⟨by rw [HR2.out]; rfl, by first | exact bel_tr (bel_tr hb1 hs1 hb7) (by have := hb7.size; omega) hb8 | (rw [hp]; exact bel_tr (bel_tr hb1 hs1 hb7) (by have := hb7.size; omega) hb8)⟩
    · have e2 : (f2 != 0) = true := by simpa using hf
      have HR2 : Hid (planE n l slots = (f1, f2)) := by show _ = _; rw [HR.out, if_neg hf]
      clear HR hf
      go_wp2_with (first
        | (go_at_call 75; refine (HI.out _ hs2).mono ?_; rintro e_ w7 ⟨rfl, hb7⟩))
      go_ret2
      exact ⟨by rw [HR2.out]; rfl, by first | exact bel_tr hb1 hs1 hb7 | (rw [hp]; exact bel_tr hb1 hs1 hb7)⟩
  · have e1 : (planHead n l slots.length != 0) = true := by simpa using h0
    have HR : Hid (planE n l slots = (0, planHead n l slots.length)) := by show _ = _; unfold planE; rw [if_neg h0]
    clear h0
    go_wp2
    go_ret2
    exact ⟨by rw [HR.out]; rfl, by first | exact hb1 | (rw [hp]; exact hb1)⟩
end Go.Proofs.Ytmdmkmfemhkfgaa
