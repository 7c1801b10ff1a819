/- Contracts: the reference's slots, tried one by one. -/
import Derived.Test.YtmdmkmfemhkfgaaE29
set_option linter.unusedSimpArgs false
set_option linter.unusedVariables false
set_option linter.unusedSimpArgs false
set_option linter.unusedVariables false
namespace Go.Proofs.Ytmdmkmfemhkfgaa
open Go.RowKit
set_option maxRecDepth 100000

/-- None of the stations before disturbs the next one in this slot. -/
def freeB (l : List G) (slots : List Int) (s : Int) (m : Nat) : Bool := (List.range m).all fun j => slots.getD j 0 != s || !decide (((j : Int), (slots.length : Int)) ∈ l)
theorem freeB_succ (l : List G) (slots : List Int) (s : Int) (m : Nat) : freeB l slots s (m + 1) = (freeB l slots s m && (slots.getD m 0 != s || !decide (((m : Int), (slots.length : Int)) ∈ l))) := by
  unfold freeB
  rw [List.range_succ, List.all_append]
  simp
theorem freeB_taken (l : List G) (slots : List Int) (s : Int) (hp : ∀ k (h : k < l.length), 0 ≤ l[k].1 ∧ l[k].1 < l[k].2) : freeB l slots s slots.length = !(l.any (taken slots s)) := by
  rw [Bool.eq_iff_iff]
  simp only [freeB, List.all_eq_true, List.mem_range, Bool.or_eq_true, bne_iff_ne, Bool.not_eq_true', decide_eq_false_iff_not, List.any_eq_false, taken, Bool.and_eq_true, beq_iff_eq, not_and]
  constructor
  · rintro h ⟨a, b⟩ hm hb hs
    obtain ⟨k, hk, e⟩ := List.getElem_of_mem hm
    have h1 := hp k hk
    rw [e] at h1
    dsimp only at hb hs h1
    subst hb
    rcases h a.toNat (by omega) with h2 | h2
    · exact h2 hs
    · rw [show ((a.toNat : Nat) : Int) = a by omega] at h2
      exact h2 hm
  · intro h j hj
    by_cases e : slots.getD j 0 = s
    · right
      intro hm
      exact h _ hm rfl (by simpa using e)
    · exact .inl e
theorem copyIntsOwn_c (l : List Int) (A : Option Addr) (c : Nat) (w : World) (hr : Rd w A (ints l)) (hl : l.length ≤ 100000) :
    Calls Try.prog 28 #[.slice A l.length c] w fun r w' => (∃ v', r = .returned v' ∧ w'.ownsRow w.heap.size 3 1 v' l.length (ints l)) ∧ Below w.heap.size w w' := by
  obtain ⟨i0, hi, iz0, iz1, iz2⟩ := info_parts Try.infoN
  go_enter Try.func28, Try.ntmps28
  go_wp2_with (first | (at_builtin; refine wpList_append_rd _ rfl _ _ 47 rfl w.heap.size 3 i0 (.int .i64 0) 1 8 Try.underlying47 hi iz0 iz1 iz2 rfl (by decide) (.slice (some ⟨w.heap.size, 0, none⟩) 0 0) 0 [] rfl (World.ownsRow_made w #[] 0 (Nat.le_refl _) (by unfold maxLen; omega) rfl) A l.length c (ints l) rfl (by simp) (hr.alloc _) (ints_one l) (by unfold maxLen; omega) (by omega) (by simp) ?_; intro v' w1 hown1 hg1))
  have hb : Below w.heap.size w w1 := ((Below.refl _ _).alloc (Nat.le_refl _) (.cells #[] 3)).grown hg1 (by simp) (by simp [Value.ownBlock])
  go_ret
  exact ⟨⟨v', rfl, by simpa using hown1⟩, hb⟩
/-- What the reference's search leaves. -/
def PlannedPost (n : Nat) (w : World) (res : Option (List Int)) (e : Ending) (w' : World) : Prop :=
  (∀ out, res = some out → ∃ A'' c'', e = .returned (.tuple #[.slice A'' n c'', .bool true]) ∧ Rd w' A'' (ints out) ∧ out.length = n) ∧
  (res = none → e = .returned (.tuple #[.slice none 0 0, .bool false])) ∧ Below w.heap.size w w'
theorem planned_zero (l : List G) (A : Option Addr) (cp n count : Nat) (slots : List Int) (A' : Option Addr) (c' : Nat) (w : World) (hn : slots.length = n) (hn8 : n ≤ 8) (hs : Rd w A' (ints slots)) (hr : Rd w A (gs l)) :
    Calls Try.prog 80 #[.agg #[.int .i64 (n : Int), .slice A l.length cp], .slice A' slots.length c', .int .i64 (count : Int)] w (PlannedPost n w (some slots)) := by
  subst hn
  obtain ⟨p, hp⟩ : ∃ p, w.heap.size = p := ⟨_, rfl⟩
  obtain ⟨W, hW⟩ : ∃ W, w.alloc (.cells #[.int .i64 (slots.length : Int), .slice A l.length cp] 71) = W := ⟨_, rfl⟩
  have hX : Blk W p 71 [.int .i64 (slots.length : Int), .slice A l.length cp] := by rw [← hW, ← hp]; exact Blk.new w _ [_, _]
  have hB : Below p w W := by rw [← hW, ← hp]; exact alloc_bel _ _
  have hrW : Rd W A (gs l) := hr.bel (by rw [hp]; exact hB)
  have hsW : Rd W A' (ints slots) := hs.bel (by rw [hp]; exact hB)
  have hpW := hX.lt
  have HW := hide hW
  clear hW hr hs
  have HCI := hide (copyInts_c slots A' c' W hsW (by omega))
  have c0 := hX.cell 0; have c1 := hX.cell 1; simp only [List.getElem?_cons_zero, List.getElem?_cons_succ] at c0 c1
  have e1 : ((slots.length : Int) == (slots.length : Int)) = true := by simp
  go_enter Try.func80, Try.ntmps80
  go_upto_region 1 with fail
  try rw [hp]
  rw [HW.out]
  go_wp2_with (first | (go_at_call 28; refine HCI.out.mono ?_; rintro e_ w5 ⟨⟨A'', c'', rfl, hd⟩, hb5⟩))
  go_ret2
  refine ⟨fun out ho => ?_, (fun ho => nomatch ho), (by first | exact bel_tr hB (by omega) hb5 | (rw [hp]; exact bel_tr hB (by omega) hb5))⟩
  injection ho with ho
  subst ho
  exact ⟨A'', c'', rfl, hd.1, rfl⟩
set_option maxHeartbeats 4000000 in
theorem planned_succ (l : List G) (A : Option Addr) (cp n count r : Nat) (hn8 : n ≤ 8) (hc8 : count ≤ 1000) (hl : l.length ≤ 1000) (hpairs : ∀ k (h : k < l.length), 0 ≤ l[k].1 ∧ l[k].1 < l[k].2)
    (ih : ∀ (slots : List Int) (A' : Option Addr) (c' : Nat) (w : World), slots.length + r = n → Rd w A' (ints slots) → Rd w A (gs l) → Calls Try.prog 80 #[.agg #[.int .i64 (n : Int), .slice A l.length cp], .slice A' slots.length c', .int .i64 (count : Int)] w (PlannedPost n w (planF l count r slots)))
    (slots : List Int) (A' : Option Addr) (c' : Nat) (w : World) (hn : slots.length + (r + 1) = n) (hs : Rd w A' (ints slots)) (hr : Rd w A (gs l)) :
    Calls Try.prog 80 #[.agg #[.int .i64 (n : Int), .slice A l.length cp], .slice A' slots.length c', .int .i64 (count : Int)] w (PlannedPost n w (planF l count (r + 1) slots)) := by
  obtain ⟨i0, hi, iz0, iz1, iz2⟩ := info_parts Try.infoN
  obtain ⟨p, hp⟩ : ∃ p, w.heap.size = p := ⟨_, rfl⟩
  obtain ⟨W, hW⟩ : ∃ W, w.alloc (.cells #[.int .i64 (n : Int), .slice A l.length cp] 71) = W := ⟨_, rfl⟩
  have hX : Blk W p 71 [.int .i64 (n : Int), .slice A l.length cp] := by rw [← hW, ← hp]; exact Blk.new w _ [_, _]
  have hB : Below p w W := by rw [← hW, ← hp]; exact alloc_bel _ _
  have hrW : Rd W A (gs l) := hr.bel (by rw [hp]; exact hB)
  have hsW : Rd W A' (ints slots) := hs.bel (by rw [hp]; exact hB)
  have hpW := hX.lt
  have HW := hide hW
  clear hW hr hs
  have hs8 : slots.length ≤ 8 := by omega
  have HIH := hide ih
  have HN := hide hn
  have HP := hide hpairs
  have hne : ((slots.length : Int) == (n : Int)) = false := by simp; omega
  generalize hres0 : planF l count (r + 1) slots = res
  have HRES := hide hres0.symm
  clear hres0 ih hn hpairs
  have c0 := hX.cell 0; have c1 := hX.cell 1; simp only [List.getElem?_cons_zero, List.getElem?_cons_succ] at c0 c1
  go_enter Try.func80, Try.ntmps80
  go_upto_region 1 with fail
  try rw [hp]
  rw [HW.out]
  go_wp2
  clear c0 c1
  go_loopw [9] (fun i wr => ∃ k : Nat, k ≤ count ∧ i = .int .i64 k ∧ Below W.heap.size W wr ∧ Hid (∀ s, s < k → tryF l count r slots s = none)) (fun i _ => count - (intOf i).toNat)
  case atStart => exact ⟨0, Nat.zero_le _, rfl, Below.refl _ _, fun _ h => by omega⟩
  case round =>
    obtain ⟨k, hk, rfl, hbr, h0⟩ := hrel
    have hXr := hX.bel hbr
    have hsr := hbr.size
    by_cases hlt : k < count
    · have HFT := hide (freeB_taken l slots (k : Int) HP.out)
      have HTF : Hid (tryF l count r slots k = if l.any (taken slots (k : Int)) then none else planF l count r (slots ++ [(k : Int)])) := rfl
      go_wp2
      go_loopw [10, 11] (fun rt x wr => ∃ m : Nat, m ≤ slots.length ∧ x = .int .i64 m ∧ rt = .bool (freeB l slots (k : Int) m) ∧ Below W.heap.size W wr) (fun _ x _ => slots.length - (intOf x).toNat)
      case atStart => exact ⟨0, Nat.zero_le _, rfl, rfl, hbr⟩
      case round =>
        obtain ⟨m, hm, rfl, rfl, hbi⟩ := hrel
        have hXi := hX.bel hbi
        have hri := hrW.bel hbi
        have hsi := hsW.bel hbi
        have hzi := hXi.lt
        have hSi := hbi.size
        have c0 := hXi.cell 0; have c1 := hXi.cell 1; simp only [List.getElem?_cons_zero, List.getElem?_cons_succ] at c0 c1
        by_cases hml : m < slots.length
        · have HFS := hide (freeB_succ l slots (k : Int) m)
          obtain ⟨g, off, rfl, hg, x0⟩ := hsi.int_at hml
          rw [getI hml] at HFS
          generalize hv : slots[m] = v at x0 HFS
          have HV := hide hv
          clear hv
          have HD := hide (disturb_c (n : Int) (m : Int) (slots.length : Int) A cp l wr hri hl (by omega))
          cases hF : freeB l slots (k : Int) m
          · rw [hF] at HFS
            have H1 : Hid (freeB l slots (k : Int) (m + 1) = false) := HFS.out
            clear HFS hF HD
            go_wp2
            exact ⟨⟨m + 1, by omega, by go_num, by rw [H1.out], hbi⟩, by simp [intOf]; omega⟩
          · rw [hF, Bool.true_and] at HFS
            clear hF
            cases hz : (v != (k : Int))
            · rw [hz, Bool.false_or] at HFS
              generalize decide (((m : Int), (slots.length : Int)) ∈ l) = dd at HD HFS
              go_wp2_with (first | (go_at_call 81; refine HD.out.mono ?_; rintro e_ w5 ⟨rfl, hb5⟩))
              exact ⟨⟨m + 1, by omega, by go_num, by rw [HFS.out], bel_tr hbi hbi.size hb5⟩, by simp [intOf]; omega⟩
            · rw [hz, Bool.true_or] at HFS
              clear HD
              go_wp2
              exact ⟨⟨m + 1, by omega, by go_num, by rw [HFS.out], hbi⟩, by simp [intOf]; omega⟩
        · obtain rfl : m = slots.length := by omega
          rw [HFT.out]
          cases htk : l.any (taken slots (k : Int))
          · have HT0 : Hid (tryF l count r slots k = planF l count r (slots ++ [(k : Int)])) := by show _ = _; rw [HTF.out, htk]; rfl
            clear HTF HFT htk
            try dsimp only [Bool.not_false]
            go_upto_region 13 with fail
            have hSd : (∀ b o, b < wr.heap.size → wr.drew.cell? ⟨b, o, none⟩ = wr.cell? ⟨b, o, none⟩) ∧ Below wr.heap.size wr wr.drew := kp (Below.refl _ _).drew
            refine wp_region_held (S := fun w' => (∀ b o, b < wr.heap.size → w'.cell? ⟨b, o, none⟩ = wr.cell? ⟨b, o, none⟩) ∧ Below wr.heap.size wr w') (by kernel_rfl) ?_
            change wpAnyH _ _ _ _ _ _ _ _ wr.drew
            refine wpAnyH_take (i := 0) (v := ?_) rfl (by kernel_rfl) (by kernel_rfl) (by kernel_rfl) (fun _ _ _ h => h) (Or.inl ⟨by kernel_rfl, ?_⟩) (by assumption) ?_
            rotate_left 1
            · (intro w hSw; obtain ⟨hk1, hk2⟩ := hSw; go_simp <;> with_reducible rfl)
            simp only [Act.put, List.getElem_toArray, List.getElem_cons_zero, List.setIfInBounds_toArray, List.set_cons_zero, List.set_cons_succ]
            refine wpAnyH_take (i := 1) (v := ?_) rfl (by kernel_rfl) (by kernel_rfl) (by kernel_rfl) (fun _ _ _ h => h) (Or.inl ⟨by kernel_rfl, ?_⟩) (by assumption) ?_
            rotate_left 1
            · (intro w hSw; obtain ⟨hk1, hk2⟩ := hSw; go_simp <;> with_reducible rfl)
            simp only [Act.put, List.getElem_toArray, List.getElem_cons_zero, List.getElem_cons_succ, List.setIfInBounds_toArray, List.set_cons_zero, List.set_cons_succ]
            refine wpAnyH_take (i := 3) (v := ?_) rfl (by kernel_rfl) (by kernel_rfl) (by kernel_rfl) (fun _ _ _ h => h) (Or.inl ⟨by kernel_rfl, ?_⟩) (by assumption) ?_
            rotate_left 1
            · (intro w hSw; obtain ⟨hk1, hk2⟩ := hSw; go_simp <;> with_reducible rfl)
            simp only [Act.put, List.getElem_toArray, List.getElem_cons_zero, List.getElem_cons_succ, List.setIfInBounds_toArray, List.set_cons_zero, List.set_cons_succ]
            refine wpAnyH_take (i := 6) (v := ?_) rfl (by kernel_rfl) (by kernel_rfl) (by kernel_rfl) (fun _ _ _ h => h) (Or.inl ⟨by kernel_rfl, ?_⟩) (by assumption) ?_
            rotate_left 1
            · (intro w hSw; obtain ⟨hk1, hk2⟩ := hSw; go_simp <;> with_reducible rfl)
            simp only [Act.put, List.getElem_toArray, List.getElem_cons_zero, List.getElem_cons_succ, List.setIfInBounds_toArray, List.set_cons_zero, List.set_cons_succ]
            refine nextH2 (i := 2) (j := 4) (by kernel_rfl) rfl rfl (fun K hK => ?_) (fun K hK => ?_)
            · go_simp
              refine (copyIntsOwn_c slots A' c' _ (hsi.bel (Below.refl _ _).drew) (by omega)).mono ?_
              rintro e_ w6 ⟨⟨v6, rfl, own6⟩, hb6⟩
              try dsimp only
              have hB6 : Below wr.heap.size wr w6 := bel_tr hSd.2 hSd.2.size hb6
              have hS6 := kp hB6
              refine hK _ _ hS6 ?_
              clear hK K hSd
              refine nextH (i := 4) (by kernel_rfl) rfl (fun K hK => ?_)
              go_simp
              obtain ⟨w7, hw7⟩ : ∃ w7, w6.alloc (.cells #[.int .i64 (k : Int)] 3) = w7 := ⟨_, rfl⟩
              have hb7 : Below w6.heap.size w6 w7 := by rw [← hw7]; exact alloc_bel _ _
              have hnew : Blk w7 w6.heap.size 3 [.int .i64 (k : Int)] := by rw [← hw7]; exact Blk.new w6 _ [_]
              have own7 := ownsRow_bel own6 hb7
              have hB7 := bel_tr hB6 hB6.size hb7
              have hS7 := kp hB7
              rw [hw7]
              clear hw7
              try dsimp only
              refine hK _ _ hS7 ?_
              clear hK K
              have hba1 : wr.heap.size ≤ wr.heap.size := Nat.le_refl _
              have hba2 : wr.heap.size ≤ w7.heap.size := hB7.size
              have own7' : w7.ownsRow wr.heap.size 3 1 v6 slots.length (ints slots) := own7
              refine nextH (i := 5) (by kernel_rfl) rfl (fun K hK => ?_)
              refine step_append_two w7 (by rfl) _ _ _ (by rfl) wr.heap.size 3 i0 _ 1 8 Try.underlying47 hi iz0 iz1 iz2 rfl (by decide) _ slots.length (ints slots) (by rfl) own7' ⟨_, 0, none⟩ 1 1 [.int .i64 (k : Int)] (by rfl) rfl (World.news_of_block hnew) (by simp [Value.oneCell']) (by decide) (by unfold maxLen; omega) (by omega) (by omega) ?_
              intro v8 w8 own8 hg8 hcase
              obtain ⟨B', cb', rfl⟩ := ownsRow_slice own8
              have hB8 : Below wr.heap.size wr w8 := Below.grown hB7 hg8 (hB7).size (fun j hj => by have := own7'.lt j hj; omega)
              have hS8 := kp hB8
              simp only [Act.put, List.getElem_toArray, List.getElem_cons_zero, List.getElem_cons_succ, List.setIfInBounds_toArray, List.set_cons_zero, List.set_cons_succ]
              refine hK _ _ hS8 ?_
              clear hK K
              have HI := HIH.out (slots ++ [(k : Int)]) B' cb' w8 (by have := HN.out; simp; omega) (by rw [ints_append]; exact Rd.of_own own8) (hri.bel hB8)
              rw [List.length_append, List.length_singleton] at HI
              clear hcase hg8 own8
              generalize hres : planF l count r (slots ++ [(k : Int)]) = rs at HI HT0
              cases rs with
              | none =>
                have HI2 : Hid (Calls Try.prog 80 #[.agg #[.int .i64 (n : Int), .slice A l.length cp], .slice B' (slots.length + 1) cb', .int .i64 (count : Int)] w8 fun e w' => e = .returned (.tuple #[.slice none 0 0, .bool false]) ∧ Below w8.heap.size w8 w') := HI.mono fun e w' hx => ⟨hx.2.1 rfl, hx.2.2⟩
                clear HI
                refine nextH (i := 7) (by kernel_rfl) rfl (fun K hK => ?_)
                go_simp
                refine HI2.out.mono ?_
                rintro e w9 ⟨rfl, hb9⟩
                try dsimp only
                have hB9 := bel_tr hB8 hB8.size hb9
                have hS9 := kp hB9
                refine hK _ _ hS9 ?_
                clear hK K
                have hSd := hS9
                refine wpAnyH_take (i := 8) (v := ?_) rfl (by kernel_rfl) (by kernel_rfl) (by kernel_rfl) (fun _ _ _ h => h) (Or.inl ⟨by kernel_rfl, ?_⟩) (by assumption) ?_
                rotate_left 1
                · (intro w hSw; obtain ⟨hk1, hk2⟩ := hSw; go_simp <;> with_reducible rfl)
                simp only [Act.put, List.getElem_toArray, List.getElem_cons_zero, List.getElem_cons_succ, List.setIfInBounds_toArray, List.set_cons_zero, List.set_cons_succ]
                refine wpAnyH_take (i := 9) (v := ?_) rfl (by kernel_rfl) (by kernel_rfl) (by kernel_rfl) (fun _ _ _ h => h) (Or.inl ⟨by kernel_rfl, ?_⟩) (by assumption) ?_
                rotate_left 1
                · (intro w hSw; obtain ⟨hk1, hk2⟩ := hSw; go_simp <;> with_reducible rfl)
                simp only [Act.put, List.getElem_toArray, List.getElem_cons_zero, List.getElem_cons_succ, List.setIfInBounds_toArray, List.set_cons_zero, List.set_cons_succ]
                refine wpAnyH_take (i := 10) (v := ?_) rfl (by kernel_rfl) (by kernel_rfl) (by kernel_rfl) (fun _ _ _ h => h) (Or.inl ⟨by kernel_rfl, ?_⟩) (by assumption) ?_
                rotate_left 1
                · (intro w hSw; obtain ⟨hk1, hk2⟩ := hSw; go_simp <;> with_reducible rfl)
                simp only [Act.put, List.getElem_toArray, List.getElem_cons_zero, List.getElem_cons_succ, List.setIfInBounds_toArray, List.set_cons_zero, List.set_cons_succ]
                refine nextH (i := 11) (by kernel_rfl) rfl (fun K hK => ?_)
                go_simp
                refine hK _ _ hSd ?_
                clear hK K
                refine nextH (i := 12) (by kernel_rfl) rfl (fun K hK => ?_)
                go_simp
                refine hK _ _ hSd ?_
                clear hK K
                refine wpAnyH_done (by kernel_rfl) ?_ _
                go_wp2
                exact ⟨⟨k + 1, by omega, by go_num, bel_tr hbi hbi.size hB9, fun s hs => by
                  by_cases e : s = k
                  · subst e; exact HT0.out
                  · exact h0.out s (by omega)⟩, by simp [intOf]; omega⟩
              | some out =>
                have HI2 : Hid (Calls Try.prog 80 #[.agg #[.int .i64 (n : Int), .slice A l.length cp], .slice B' (slots.length + 1) cb', .int .i64 (count : Int)] w8 fun e w' => (∃ A'' c'', e = .returned (.tuple #[.slice A'' n c'', .bool true]) ∧ Rd w' A'' (ints out) ∧ out.length = n) ∧ Below w8.heap.size w8 w') := HI.mono fun e w' hx => ⟨hx.1 out rfl, hx.2.2⟩
                clear HI
                refine nextH (i := 7) (by kernel_rfl) rfl (fun K hK => ?_)
                go_simp
                refine HI2.out.mono ?_
                rintro e w9 ⟨⟨A'', c'', rfl, hd9, hl9⟩, hb9⟩
                try dsimp only
                have hB9 := bel_tr hB8 hB8.size hb9
                have hS9 := kp hB9
                refine hK _ _ hS9 ?_
                clear hK K
                have hSd := hS9
                refine wpAnyH_take (i := 8) (v := ?_) rfl (by kernel_rfl) (by kernel_rfl) (by kernel_rfl) (fun _ _ _ h => h) (Or.inl ⟨by kernel_rfl, ?_⟩) (by assumption) ?_
                rotate_left 1
                · (intro w hSw; obtain ⟨hk1, hk2⟩ := hSw; go_simp <;> with_reducible rfl)
                simp only [Act.put, List.getElem_toArray, List.getElem_cons_zero, List.getElem_cons_succ, List.setIfInBounds_toArray, List.set_cons_zero, List.set_cons_succ]
                refine wpAnyH_take (i := 9) (v := ?_) rfl (by kernel_rfl) (by kernel_rfl) (by kernel_rfl) (fun _ _ _ h => h) (Or.inl ⟨by kernel_rfl, ?_⟩) (by assumption) ?_
                rotate_left 1
                · (intro w hSw; obtain ⟨hk1, hk2⟩ := hSw; go_simp <;> with_reducible rfl)
                simp only [Act.put, List.getElem_toArray, List.getElem_cons_zero, List.getElem_cons_succ, List.setIfInBounds_toArray, List.set_cons_zero, List.set_cons_succ]
                refine wpAnyH_take (i := 10) (v := ?_) rfl (by kernel_rfl) (by kernel_rfl) (by kernel_rfl) (fun _ _ _ h => h) (Or.inl ⟨by kernel_rfl, ?_⟩) (by assumption) ?_
                rotate_left 1
                · (intro w hSw; obtain ⟨hk1, hk2⟩ := hSw; go_simp <;> with_reducible rfl)
                simp only [Act.put, List.getElem_toArray, List.getElem_cons_zero, List.getElem_cons_succ, List.setIfInBounds_toArray, List.set_cons_zero, List.set_cons_succ]
                refine nextH (i := 11) (by kernel_rfl) rfl (fun K hK => ?_)
                go_simp
                refine hK _ _ hSd ?_
                clear hK K
                refine nextH (i := 12) (by kernel_rfl) rfl (fun K hK => ?_)
                go_simp
                refine hK _ _ hSd ?_
                clear hK K
                refine wpAnyH_done (by kernel_rfl) ?_ _
                have HF : Hid (res = some out) := by
                  show _ = _
                  rw [HRES.out, planF_succ]
                  exact findSome_some hlt h0.out HT0.out
                go_wp2
                go_ret2
                refine ⟨fun out' ho => ?_, (fun ho => nomatch HF.out.symm.trans ho), (by first | exact bel_tr (bel_tr hB (by omega) hbi) (by omega) hB9 | (rw [hp]; exact bel_tr (bel_tr hB (by omega) hbi) (by omega) hB9))⟩
                have e1 := HF.out.symm.trans ho
                injection e1 with e1
                subst e1
                exact ⟨A'', c'', rfl, hd9, hl9⟩
            · go_simp
              obtain ⟨w6, hw6⟩ : ∃ w6, (wr.alloc (.cells #[.int .i64 (k : Int)] 3)).drew = w6 := ⟨_, rfl⟩
              have hb6 : Below wr.heap.size wr w6 := by rw [← hw6]; exact (alloc_bel _ _).drew
              have hnew0 : Blk w6 wr.heap.size 3 [.int .i64 (k : Int)] := by rw [← hw6]; exact (Blk.new wr _ [_]).drewN 1
              have hS6 := kp hb6
              rw [hw6]
              clear hw6
              try dsimp only
              refine hK _ _ hS6 ?_
              clear hK K hSd
              refine nextH (i := 2) (by kernel_rfl) rfl (fun K hK => ?_)
              go_simp
              refine (copyIntsOwn_c slots A' c' w6 (hsi.bel hb6) (by omega)).mono ?_
              rintro e_ w7 ⟨⟨v6, rfl, own7⟩, hb7⟩
              try dsimp only
              have hnew := hnew0.bel hb7
              have hB7 : Below wr.heap.size wr w7 := bel_tr hb6 hb6.size hb7
              have hS7 := kp hB7
              refine hK _ _ hS7 ?_
              clear hK K
              have hba1 : wr.heap.size ≤ w6.heap.size := hb6.size
              have hba2 : w6.heap.size ≤ w7.heap.size := hb7.size
              refine nextH (i := 5) (by kernel_rfl) rfl (fun K hK => ?_)
              refine step_append_two w7 (by rfl) _ _ _ (by rfl) w6.heap.size 3 i0 _ 1 8 Try.underlying47 hi iz0 iz1 iz2 rfl (by decide) _ slots.length (ints slots) (by rfl) own7 ⟨_, 0, none⟩ 1 1 [.int .i64 (k : Int)] (by rfl) rfl (World.news_of_block hnew) (by simp [Value.oneCell']) (by decide) (by unfold maxLen; omega) (by omega) (by omega) ?_
              intro v8 w8 own8 hg8 hcase
              obtain ⟨B', cb', rfl⟩ := ownsRow_slice own8
              have hB8 : Below wr.heap.size wr w8 := Below.grown hB7 hg8 (hB7).size (fun j hj => by have := own7.lt j hj; omega)
              have hS8 := kp hB8
              simp only [Act.put, List.getElem_toArray, List.getElem_cons_zero, List.getElem_cons_succ, List.setIfInBounds_toArray, List.set_cons_zero, List.set_cons_succ]
              refine hK _ _ hS8 ?_
              clear hK K
              have HI := HIH.out (slots ++ [(k : Int)]) B' cb' w8 (by have := HN.out; simp; omega) (by rw [ints_append]; exact Rd.of_own own8) (hri.bel hB8)
              rw [List.length_append, List.length_singleton] at HI
              clear hcase hg8 own8
              generalize hres : planF l count r (slots ++ [(k : Int)]) = rs at HI HT0
              cases rs with
              | none =>
                have HI2 : Hid (Calls Try.prog 80 #[.agg #[.int .i64 (n : Int), .slice A l.length cp], .slice B' (slots.length + 1) cb', .int .i64 (count : Int)] w8 fun e w' => e = .returned (.tuple #[.slice none 0 0, .bool false]) ∧ Below w8.heap.size w8 w') := HI.mono fun e w' hx => ⟨hx.2.1 rfl, hx.2.2⟩
                clear HI
                refine nextH (i := 7) (by kernel_rfl) rfl (fun K hK => ?_)
                go_simp
                refine HI2.out.mono ?_
                rintro e w9 ⟨rfl, hb9⟩
                try dsimp only
                have hB9 := bel_tr hB8 hB8.size hb9
                have hS9 := kp hB9
                refine hK _ _ hS9 ?_
                clear hK K
                have hSd := hS9
                refine wpAnyH_take (i := 8) (v := ?_) rfl (by kernel_rfl) (by kernel_rfl) (by kernel_rfl) (fun _ _ _ h => h) (Or.inl ⟨by kernel_rfl, ?_⟩) (by assumption) ?_
                rotate_left 1
                · (intro w hSw; obtain ⟨hk1, hk2⟩ := hSw; go_simp <;> with_reducible rfl)
                simp only [Act.put, List.getElem_toArray, List.getElem_cons_zero, List.getElem_cons_succ, List.setIfInBounds_toArray, List.set_cons_zero, List.set_cons_succ]
                refine wpAnyH_take (i := 9) (v := ?_) rfl (by kernel_rfl) (by kernel_rfl) (by kernel_rfl) (fun _ _ _ h => h) (Or.inl ⟨by kernel_rfl, ?_⟩) (by assumption) ?_
                rotate_left 1
                · (intro w hSw; obtain ⟨hk1, hk2⟩ := hSw; go_simp <;> with_reducible rfl)
                simp only [Act.put, List.getElem_toArray, List.getElem_cons_zero, List.getElem_cons_succ, List.setIfInBounds_toArray, List.set_cons_zero, List.set_cons_succ]
                refine wpAnyH_take (i := 10) (v := ?_) rfl (by kernel_rfl) (by kernel_rfl) (by kernel_rfl) (fun _ _ _ h => h) (Or.inl ⟨by kernel_rfl, ?_⟩) (by assumption) ?_
                rotate_left 1
                · (intro w hSw; obtain ⟨hk1, hk2⟩ := hSw; go_simp <;> with_reducible rfl)
                simp only [Act.put, List.getElem_toArray, List.getElem_cons_zero, List.getElem_cons_succ, List.setIfInBounds_toArray, List.set_cons_zero, List.set_cons_succ]
                refine nextH (i := 11) (by kernel_rfl) rfl (fun K hK => ?_)
                go_simp
                refine hK _ _ hSd ?_
                clear hK K
                refine nextH (i := 12) (by kernel_rfl) rfl (fun K hK => ?_)
                go_simp
                refine hK _ _ hSd ?_
                clear hK K
                refine wpAnyH_done (by kernel_rfl) ?_ _
                go_wp2
                exact ⟨⟨k + 1, by omega, by go_num, bel_tr hbi hbi.size hB9, fun s hs => by
                  by_cases e : s = k
                  · subst e; exact HT0.out
                  · exact h0.out s (by omega)⟩, by simp [intOf]; omega⟩
              | some out =>
                have HI2 : Hid (Calls Try.prog 80 #[.agg #[.int .i64 (n : Int), .slice A l.length cp], .slice B' (slots.length + 1) cb', .int .i64 (count : Int)] w8 fun e w' => (∃ A'' c'', e = .returned (.tuple #[.slice A'' n c'', .bool true]) ∧ Rd w' A'' (ints out) ∧ out.length = n) ∧ Below w8.heap.size w8 w') := HI.mono fun e w' hx => ⟨hx.1 out rfl, hx.2.2⟩
                clear HI
                refine nextH (i := 7) (by kernel_rfl) rfl (fun K hK => ?_)
                go_simp
                refine HI2.out.mono ?_
                rintro e w9 ⟨⟨A'', c'', rfl, hd9, hl9⟩, hb9⟩
                try dsimp only
                have hB9 := bel_tr hB8 hB8.size hb9
                have hS9 := kp hB9
                refine hK _ _ hS9 ?_
                clear hK K
                have hSd := hS9
                refine wpAnyH_take (i := 8) (v := ?_) rfl (by kernel_rfl) (by kernel_rfl) (by kernel_rfl) (fun _ _ _ h => h) (Or.inl ⟨by kernel_rfl, ?_⟩) (by assumption) ?_
                rotate_left 1
                · (intro w hSw; obtain ⟨hk1, hk2⟩ := hSw; go_simp <;> with_reducible rfl)
                simp only [Act.put, List.getElem_toArray, List.getElem_cons_zero, List.getElem_cons_succ, List.setIfInBounds_toArray, List.set_cons_zero, List.set_cons_succ]
                refine wpAnyH_take (i := 9) (v := ?_) rfl (by kernel_rfl) (by kernel_rfl) (by kernel_rfl) (fun _ _ _ h => h) (Or.inl ⟨by kernel_rfl, ?_⟩) (by assumption) ?_
                rotate_left 1
                · (intro w hSw; obtain ⟨hk1, hk2⟩ := hSw; go_simp <;> with_reducible rfl)
                simp only [Act.put, List.getElem_toArray, List.getElem_cons_zero, List.getElem_cons_succ, List.setIfInBounds_toArray, List.set_cons_zero, List.set_cons_succ]
                refine wpAnyH_take (i := 10) (v := ?_) rfl (by kernel_rfl) (by kernel_rfl) (by kernel_rfl) (fun _ _ _ h => h) (Or.inl ⟨by kernel_rfl, ?_⟩) (by assumption) ?_
                rotate_left 1
                · (intro w hSw; obtain ⟨hk1, hk2⟩ := hSw; go_simp <;> with_reducible rfl)
                simp only [Act.put, List.getElem_toArray, List.getElem_cons_zero, List.getElem_cons_succ, List.setIfInBounds_toArray, List.set_cons_zero, List.set_cons_succ]
                refine nextH (i := 11) (by kernel_rfl) rfl (fun K hK => ?_)
                go_simp
                refine hK _ _ hSd ?_
                clear hK K
                refine nextH (i := 12) (by kernel_rfl) rfl (fun K hK => ?_)
                go_simp
                refine hK _ _ hSd ?_
                clear hK K
                refine wpAnyH_done (by kernel_rfl) ?_ _
                have HF : Hid (res = some out) := by
                  show _ = _
                  rw [HRES.out, planF_succ]
                  exact findSome_some hlt h0.out HT0.out
                go_wp2
                go_ret2
                refine ⟨fun out' ho => ?_, (fun ho => nomatch HF.out.symm.trans ho), (by first | exact bel_tr (bel_tr hB (by omega) hbi) (by omega) hB9 | (rw [hp]; exact bel_tr (bel_tr hB (by omega) hbi) (by omega) hB9))⟩
                have e1 := HF.out.symm.trans ho
                injection e1 with e1
                subst e1
                exact ⟨A'', c'', rfl, hd9, hl9⟩
          · have HT0 : Hid (tryF l count r slots k = none) := by show _ = _; rw [HTF.out, if_pos htk]
            clear HTF HFT htk
            try dsimp only [Bool.not_true]
            go_wp2
            exact ⟨⟨k + 1, by omega, by go_num, hbi, fun s hs => by
              by_cases e : s = k
              · subst e; exact HT0.out
              · exact h0.out s (by omega)⟩, by simp [intOf]; omega⟩
    · obtain rfl : k = count := by omega
      have HF : Hid (res = none) := by show _ = _; rw [HRES.out, planF_succ]; exact findSome_none h0.out
      go_wp2
      go_ret2
      refine ⟨(fun out' ho => nomatch HF.out.symm.trans ho), fun _ => rfl, (by first | exact bel_tr hB (by omega) hbr | (rw [hp]; exact bel_tr hB (by omega) hbr))⟩
end Go.Proofs.Ytmdmkmfemhkfgaa
