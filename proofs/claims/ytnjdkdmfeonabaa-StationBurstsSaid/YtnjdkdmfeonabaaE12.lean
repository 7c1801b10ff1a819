/- Contracts: slots tried one by one. -/
import Derived.Test.YtnjdkdmfeonabaaE11
set_option linter.unusedSimpArgs false
set_option linter.unusedVariables false
set_option linter.unusedSimpArgs false
set_option linter.unusedVariables false
namespace Go.Proofs.Ytnjdkdmfeonabaa
open Go.RowKit
set_option maxRecDepth 100000

theorem grown_cell {w w' : World} {row : Option Nat} {k i : Nat} {v : Value} (hg : w.grownBy w' row) (h : w.cell? ⟨k, i, none⟩ = some v) (hr : ∀ j, row = some j → j ≠ k) : w'.cell? ⟨k, i, none⟩ = some v :=
  (World.cell?_of_block (hg.block k (World.block_lt_of_cell? _ _ h) (fun e => hr k e.symm rfl))).trans h
theorem Blk.grown {w w' : World} {row : Option Nat} {g : Nat} {t : TypeId} {cs : List Value} (h : Blk w g t cs) (hg : w.grownBy w' row) (hr : ∀ j, row = some j → j ≠ g) : Blk w' g t cs := (hg.block g h.lt (fun e => hr g e.symm rfl)).trans h
theorem Rd.grown {w w' : World} {row : Option Nat} {A : Option Addr} {xs : List Value} (h : Rd w A xs) (hg : w.grownBy w' row) (hr : xs ≠ [] → ∀ b off, A = some ⟨b, off, none⟩ → ∀ j, row = some j → j ≠ b) : Rd w' A xs := by
  intro hx
  obtain ⟨b, off, rfl, hlt, hc⟩ := h hx
  exact ⟨b, off, rfl, Nat.lt_of_lt_of_le hlt hg.size, fun j u hu => grown_cell hg (hc j u hu) (hr hx b off rfl)⟩
theorem grownBy_bel {w w' : World} {row : Option Nat} (h : Below w.heap.size w w') : w.grownBy w' row := ⟨h.os, h.tape, h.output, h.size, fun k hk _ => h.block k hk⟩
theorem grownBy_tr {a b c : World} {r r' : Option Nat} (h : a.grownBy b r) (k : b.grownBy c r') (hr : ∀ j, r' = some j → r = some j ∨ a.heap.size ≤ j) : a.grownBy c r :=
  ⟨k.os.trans h.os, k.tape.trans h.tape, k.output.trans h.output, Nat.le_trans h.size k.size, fun i hi hne => (k.block i (Nat.lt_of_lt_of_le hi h.size) (fun e => by rcases hr i e.symm with h1 | h1; exact hne h1.symm; omega)).trans (h.block i hi hne)⟩

/-- What planFrom leaves. -/
def PlanPost (n n₀ : Nat) (v : Value) (slots : List Int) (w : World) (res : Option (List Int)) (e : Ending) (w' : World) : Prop :=
  (∀ out, res = some out → ∃ g o c, e = .returned (.slice (some ⟨g, o, none⟩) n c) ∧ Rd w' (some ⟨g, o, none⟩) (ints out) ∧ out.length = n) ∧
  (res = none → e = .returned (.slice none 0 0) ∧ w'.ownsRow n₀ 3 1 v slots.length (ints slots)) ∧ w.grownBy w' v.ownBlock

theorem planFrom_zero (l : List G) (A : Option Addr) (cp n count n₀ : Nat) (slots : List Int) (A' : Option Addr) (c' : Nat) (w : World) (hn : slots.length = n) (hn1 : 1 ≤ n) (hn8 : n ≤ 8) (hown : w.ownsRow n₀ 3 1 (.slice A' slots.length c') slots.length (ints slots)) (hr : Rd w A (gs l)) :
    Calls Try.prog 25 #[.agg #[.int .i64 (n : Int), .slice A l.length cp], .slice A' slots.length c', .int .i64 (count : Int)] w (PlanPost n n₀ (.slice A' slots.length c') slots w (some slots)) := by
  obtain ⟨p, hp⟩ : ∃ p, w.heap.size = p := ⟨_, rfl⟩
  obtain ⟨W, hW⟩ : ∃ W, ((w.alloc (.cells #[.int .i64 (n : Int), .slice A l.length cp] 45)).alloc (.cells #[.slice A' slots.length c'] 36)).alloc (.cells #[.int .i64 (slots.length : Int)] 3) = W := ⟨_, rfl⟩
  have k2 := two_new w 45 36 [.int .i64 (n : Int), .slice A l.length cp] [.slice A' slots.length c']
  have hX : Blk W p 45 [.int .i64 (n : Int), .slice A l.length cp] := by rw [← hW, ← hp]; exact k2.1.bel (alloc_bel _ _)
  have hV : Blk W (p + 1) 36 [.slice A' slots.length c'] := by rw [← hW, ← hp]; exact k2.2.1.bel (alloc_bel _ _)
  have hT : Blk W (p + 1 + 1) 3 [.int .i64 (slots.length : Int)] := by
    rw [← hW, ← hp]; have := Blk.new ((w.alloc (.cells #[.int .i64 (n : Int), .slice A l.length cp] 45)).alloc (.cells #[.slice A' slots.length c'] 36)) 3 [.int .i64 (slots.length : Int)]
    simpa using this
  have hB : Below p w W := by rw [← hW, ← hp]; exact bel_alloc k2.2.2 (by simp; omega) _
  have hrow : ∀ j, Value.ownBlock (.slice A' slots.length c') = some j → n₀ ≤ j ∧ j < p := fun j hj => by have := hown.lt j hj; omega
  have hownW : W.ownsRow n₀ 3 1 (.slice A' slots.length c') slots.length (ints slots) := ownsRow_bel hown (by rw [hp]; exact hB)
  have hrW : Rd W A (gs l) := hr.bel (by rw [hp]; exact hB)
  have HW := hide hW
  clear hW k2
  have x0 := hX.cell 0
  have x1 := hX.cell 1
  have y0 := hV.cell 0
  have z0 := hT.cell 0
  simp only [List.getElem?_cons_zero, List.getElem?_cons_succ] at x0 x1 y0 z0
  have hzT := hT.lt
  have e1 : ((slots.length : Int) == (n : Int)) = true := by simp; omega
  have hgr := grownBy_bel (w := w) (w' := W) (row := Value.ownBlock (.slice A' slots.length c')) (by rw [hp]; exact hB)
  have HP : Hid (∀ w', W = w' → PlanPost n n₀ (.slice A' slots.length c') slots w (some slots) (.returned (.slice A' slots.length c')) w') := by
    rintro w' rfl
    refine ⟨fun out ho => ?_, (fun h => by cases h), hgr⟩
    injection ho with ho
    subst ho
    obtain ⟨g, o, rfl, hg, _⟩ := (Rd.of_own hownW).int_at (show 0 < slots.length by omega)
    exact ⟨g, o, c', by rw [hn], Rd.of_own hownW, hn⟩
  clear hn
  go_enter Try.func25, Try.ntmps25
  go_wp2
  go_ret
  exact HP.out _ HW.out.symm

/-- The tries of planFrom, one by one. -/
def tryF (pairs : List G) (count r : Nat) (slots : List Int) (s : Nat) : Option (List Int) := if pairs.any (taken slots (s : Int)) then none else planF pairs count r (slots ++ [(s : Int)])
theorem planF_succ (pairs : List G) (count r : Nat) (slots : List Int) : planF pairs count (r + 1) slots = (List.range count).findSome? (tryF pairs count r slots) := rfl
theorem findSome_none {α : Type} {f : Nat → Option α} {m : Nat} (h : ∀ s, s < m → f s = none) : (List.range m).findSome? f = none := by
  rw [List.findSome?_eq_none_iff]
  intro s hs
  exact h s (List.mem_range.1 hs)
theorem findSome_some {α : Type} {f : Nat → Option α} {m k : Nat} {x : α} (hk : k < m) (h : ∀ s, s < k → f s = none) (hx : f k = some x) : (List.range m).findSome? f = some x := by
  rw [List.findSome?_eq_some_iff]
  refine ⟨List.range k, k, (List.range m).drop (k + 1), ?_, hx, fun s hs => h s (List.mem_range.1 hs)⟩
  have h1 := List.take_append_drop k (List.range m)
  rw [List.take_range, Nat.min_eq_left (by omega), List.drop_eq_getElem_cons (by simpa using hk), List.getElem_range] at h1
  exact h1.symm

set_option maxHeartbeats 2000000 in
theorem planFrom_succ (l : List G) (A : Option Addr) (cp n count n₀ r : Nat) (hn8 : n ≤ 8) (hc8 : count ≤ 1000) (hl : l.length ≤ 1000) (hpairs : ∀ k (h : k < l.length), 0 ≤ l[k].1 ∧ l[k].1 < l[k].2)
    (ih : ∀ (slots : List Int) (A' : Option Addr) (c' : Nat) (w : World), slots.length + r = n → n₀ ≤ w.heap.size → w.ownsRow n₀ 3 1 (.slice A' slots.length c') slots.length (ints slots) → Rd w A (gs l) → (gs l ≠ [] → ∀ b off, A = some ⟨b, off, none⟩ → b < n₀) → 1 ≤ slots.length →
      Calls Try.prog 25 #[.agg #[.int .i64 (n : Int), .slice A l.length cp], .slice A' slots.length c', .int .i64 (count : Int)] w (PlanPost n n₀ (.slice A' slots.length c') slots w (planF l count r slots)))
    (slots : List Int) (A' : Option Addr) (c' : Nat) (w : World) (hn : slots.length + (r + 1) = n) (hw : n₀ ≤ w.heap.size) (hown : w.ownsRow n₀ 3 1 (.slice A' slots.length c') slots.length (ints slots)) (hr : Rd w A (gs l)) (hlow : gs l ≠ [] → ∀ b off, A = some ⟨b, off, none⟩ → b < n₀) :
    Calls Try.prog 25 #[.agg #[.int .i64 (n : Int), .slice A l.length cp], .slice A' slots.length c', .int .i64 (count : Int)] w (PlanPost n n₀ (.slice A' slots.length c') slots w (planF l count (r + 1) slots)) := by
  obtain ⟨i0, hi, iz0, iz1, iz2⟩ := info_parts Try.infoN
  obtain ⟨p, hp⟩ : ∃ p, w.heap.size = p := ⟨_, rfl⟩
  obtain ⟨W, hW⟩ : ∃ W, ((w.alloc (.cells #[.int .i64 (n : Int), .slice A l.length cp] 45)).alloc (.cells #[.slice A' slots.length c'] 36)).alloc (.cells #[.int .i64 (slots.length : Int)] 3) = W := ⟨_, rfl⟩
  have k2 := two_new w 45 36 [.int .i64 (n : Int), .slice A l.length cp] [.slice A' slots.length c']
  have hX : Blk W p 45 [.int .i64 (n : Int), .slice A l.length cp] := by rw [← hW, ← hp]; exact k2.1.bel (alloc_bel _ _)
  have hV : Blk W (p + 1) 36 [.slice A' slots.length c'] := by rw [← hW, ← hp]; exact k2.2.1.bel (alloc_bel _ _)
  have hT : Blk W (p + 1 + 1) 3 [.int .i64 (slots.length : Int)] := by
    rw [← hW, ← hp]; have := Blk.new ((w.alloc (.cells #[.int .i64 (n : Int), .slice A l.length cp] 45)).alloc (.cells #[.slice A' slots.length c'] 36)) 3 [.int .i64 (slots.length : Int)]
    simpa using this
  have hB : Below p w W := by rw [← hW, ← hp]; exact bel_alloc k2.2.2 (by simp; omega) _
  have hrow : ∀ j, Value.ownBlock (.slice A' slots.length c') = some j → n₀ ≤ j ∧ j < p := fun j hj => by have := hown.lt j hj; omega
  have hownW : W.ownsRow n₀ 3 1 (.slice A' slots.length c') slots.length (ints slots) := ownsRow_bel hown (by rw [hp]; exact hB)
  have hrW : Rd W A (gs l) := hr.bel (by rw [hp]; exact hB)
  have HW := hide hW
  clear hW k2
  have x0 := hX.cell 0
  have x1 := hX.cell 1
  have y0 := hV.cell 0
  have z0 := hT.cell 0
  simp only [List.getElem?_cons_zero, List.getElem?_cons_succ] at x0 x1 y0 z0
  have hzT := hT.lt
  have e1 : ((slots.length : Int) == (n : Int)) = false := by simp; omega
  have hgr := grownBy_bel (w := w) (w' := W) (row := Value.ownBlock (.slice A' slots.length c')) (by rw [hp]; exact hB)
  have hs8 : slots.length ≤ 8 := by omega
  have HIH := hide ih
  have HN := hide hn
  have HF := planF_succ l count r slots
  have hne : n ≠ slots.length := by omega
  have HXB := hide hX
  have HVB := hide hV
  have HTB := hide hT
  generalize planF l count (r + 1) slots = res at HF ⊢
  have HRES := hide HF
  clear HF ih hn
  go_enter Try.func25, Try.ntmps25
  go_upto_region 4 with fail
  rw [HW.out]
  clear HW hX hV hT x0 x1 y0 z0 hr hown
  go_wp2
  go_loopw [19] (fun i wr => ∃ k : Nat, k ≤ count ∧ i = .int .i64 k ∧ W.grownBy wr (Value.ownBlock (.slice A' slots.length c')) ∧ wr.ownsRow n₀ 3 1 (.slice A' slots.length c') slots.length (ints slots) ∧ Hid (∀ s, s < k → tryF l count r slots s = none)) (fun i _ => count - (intOf i).toNat)
  case atStart => exact ⟨0, Nat.zero_le _, rfl, grownBy_bel (Below.refl _ _), hownW, fun _ h => by omega⟩
  case round =>
    obtain ⟨k, hk, rfl, hgW, ownr, h0⟩ := hrel
    have hsW := hgW.size
    have hXr := HXB.out.grown hgW (fun j hj => by have := hrow j hj; omega)
    have hVr := HVB.out.grown hgW (fun j hj => by have := hrow j hj; omega)
    have hTr := HTB.out.grown hgW (fun j hj => by have := hrow j hj; omega)
    have hrr : Rd wr A (gs l) := Rd.grown hrW hgW (fun hx b off e j hj => by have := hrow j hj; have := hlow hx b off e; omega)
    by_cases hlt : k < count
    · have hba := alloc_bel wr (.cells #[.int .i64 (k : Int)] 3)
      have hKa := Blk.new wr 3 [.int .i64 (k : Int)]
      obtain ⟨wa, hwa⟩ : ∃ wa, wr.alloc (.cells #[.int .i64 (k : Int)] 3) = wa := ⟨_, rfl⟩
      obtain ⟨q, hq⟩ : ∃ q, wr.heap.size = q := ⟨_, rfl⟩
      rw [hwa] at hba hKa
      rw [hq] at hKa
      have hXa := hXr.bel hba
      have hVa := hVr.bel hba
      have hTa := hTr.bel hba
      have hra := hrr.bel hba
      have owna := ownsRow_bel ownr hba
      have HCF := hide (containsFunc_c (taken slots (k : Int)) 38 l A cp #[.pointer (some ⟨p + 1 + 1, 0, none⟩), .pointer (some ⟨p + 1, 0, none⟩), .pointer (some ⟨q, 0, none⟩)] wa hra hl Try.call38 (fun j h W' hb => planFrom1_c _ _ _ slots (p + 1 + 1) (p + 1) q A' c' W' ((hTa.bel hb).cell 0) ((hVa.bel hb).cell 0) ((hKa.bel hb).cell 0) ((Rd.of_own owna).bel hb) (by omega) (hpairs j h).1 (hpairs j h).2))
      have HTF : Hid (tryF l count r slots k = if l.any (taken slots (k : Int)) then none else planF l count r (slots ++ [(k : Int)])) := rfl
      have hq0 : p + 1 + 1 < q := by omega
      clear hTr
      have x0 := hXr.cell 0; have x1 := hXr.cell 1; simp only [List.getElem?_cons_zero, List.getElem?_cons_succ] at x0 x1
      have y0 := hVr.cell 0
      simp only [List.getElem?_cons_zero] at y0
      have HWA := hide hwa
      have HQ := hide hq
      by_cases htk : l.any (taken slots (k : Int)) = true
      · have HT0 : Hid (tryF l count r slots k = none) := by show _ = _; rw [HTF.out, if_pos htk]
        rw [htk] at HCF
        clear htk HTF
        have u0 := hXa.cell 0; have u1 := hXa.cell 1; simp only [List.getElem?_cons_zero, List.getElem?_cons_succ] at u0 u1
        go_wp2_with (first | (go_at_call 39; refine HCF.out.mono ?_; rintro e_ w5 ⟨rfl, hb5⟩))
        go_roundw
        case rel => exact ⟨k + 1, by omega, by go_num, grownBy_tr hgW (grownBy_bel (row := none) (tr hba hb5 hba.size)) (fun j hj => by cases hj), ownsRow_bel owna hb5, fun s hs => by
          by_cases e : s = k
          · subst e; exact HT0.out
          · exact h0.out s (by omega)⟩
        case measure => simp [intOf]; omega
      · have hfk : l.any (taken slots (k : Int)) = false := by simpa using htk
        have HT0 : Hid (tryF l count r slots k = planF l count r (slots ++ [(k : Int)])) := by show _ = _; rw [HTF.out, hfk]; rfl
        rw [hfk] at HCF
        clear htk HTF hfk
        have u0 := hXa.cell 0; have u1 := hXa.cell 1; simp only [List.getElem?_cons_zero, List.getElem?_cons_succ] at u0 u1
        go_upto_region 9 with (first | (go_at_call 39; refine HCF.out.mono ?_; rintro e_ w5 ⟨rfl, hb5⟩))
        have hX5 := hXa.bel hb5
        have hV5 := hVa.bel hb5
        have hK5 := hKa.bel hb5
        have hr5 := hra.bel hb5
        have own5 := ownsRow_bel owna hb5
        have hb05 : Below wr.heap.size wr w5 := tr hba hb5 hba.size
        have hq5 := hK5.lt
        have hs5 := hb05.size
        clear hwa hq u0 u1 x0 x1 y0 hXa hVa hKa hra owna hXr hVr hrr HCF hb5 hba hTa
        have j0 := hX5.cell 0
        have j1 := hX5.cell 1
        have j2 := hV5.cell 0
        have j3 := hK5.cell 0
        simp only [List.getElem?_cons_zero, List.getElem?_cons_succ] at j0 j1 j2 j3
        refine wp_region_held (S := fun w' => w'.cell? ⟨p, 0, none⟩ = some (.int .i64 (n : Int)) ∧ w'.cell? ⟨p, 1, none⟩ = some (.slice A l.length cp) ∧ w'.cell? ⟨p + 1, 0, none⟩ = some (.slice A' slots.length c') ∧ w'.cell? ⟨q, 0, none⟩ = some (.int .i64 (k : Int))) (by kernel_rfl) ?_
        have hSd : w5.drew.cell? ⟨p, 0, none⟩ = some (.int .i64 (n : Int)) ∧ w5.drew.cell? ⟨p, 1, none⟩ = some (.slice A l.length cp) ∧ w5.drew.cell? ⟨p + 1, 0, none⟩ = some (.slice A' slots.length c') ∧ w5.drew.cell? ⟨q, 0, none⟩ = some (.int .i64 (k : Int)) := ⟨j0, j1, j2, j3⟩
        change wpAnyH _ _ _ _ _ _ _ _ w5.drew
        clear j0 j1 j2 j3
        refine wpAnyH_take (i := 0) (v := ?_) rfl (by kernel_rfl) (by kernel_rfl) (by kernel_rfl) (fun _ _ _ h => h) (Or.inl ⟨by kernel_rfl, ?_⟩) (by assumption) ?_
        rotate_left 1
        · (intro w hSw; obtain ⟨hk1, hk2, hk3, hk4⟩ := hSw; go_simp <;> with_reducible rfl)
        simp only [Act.put, List.getElem_toArray, List.getElem_cons_zero, List.setIfInBounds_toArray, List.set_cons_zero, List.set_cons_succ]
        refine wpAnyH_take (i := 1) (v := ?_) rfl (by kernel_rfl) (by kernel_rfl) (by kernel_rfl) (fun _ _ _ h => h) (Or.inl ⟨by kernel_rfl, ?_⟩) (by assumption) ?_
        rotate_left 1
        · (intro w hSw; obtain ⟨hk1, hk2, hk3, hk4⟩ := hSw; go_simp <;> with_reducible rfl)
        simp only [Act.put, List.getElem_toArray, List.getElem_cons_zero, List.getElem_cons_succ, List.setIfInBounds_toArray, List.set_cons_zero, List.set_cons_succ]
        refine wpAnyH_take (i := 2) (v := ?_) rfl (by kernel_rfl) (by kernel_rfl) (by kernel_rfl) (fun _ _ _ h => h) (Or.inl ⟨by kernel_rfl, ?_⟩) (by assumption) ?_
        rotate_left 1
        · (intro w hSw; obtain ⟨hk1, hk2, hk3, hk4⟩ := hSw; go_simp <;> with_reducible rfl)
        simp only [Act.put, List.getElem_toArray, List.getElem_cons_zero, List.getElem_cons_succ, List.setIfInBounds_toArray, List.set_cons_zero, List.set_cons_succ]
        refine wpAnyH_take (i := 5) (v := ?_) rfl (by kernel_rfl) (by kernel_rfl) (by kernel_rfl) (fun _ _ _ h => h) (Or.inl ⟨by kernel_rfl, ?_⟩) (by assumption) ?_
        rotate_left 1
        · (intro w hSw; obtain ⟨hk1, hk2, hk3, hk4⟩ := hSw; go_simp <;> with_reducible rfl)
        simp only [Act.put, List.getElem_toArray, List.getElem_cons_zero, List.getElem_cons_succ, List.setIfInBounds_toArray, List.set_cons_zero, List.set_cons_succ]
        refine nextH (i := 3) (by kernel_rfl) rfl (fun K hK => ?_)
        go_simp
        obtain ⟨W6, hW6⟩ : ∃ W6, (w5.alloc (.cells #[.int .i64 (k : Int)] 3)).drew = W6 := ⟨_, rfl⟩
        have hb6 : Below w5.heap.size w5 W6 := by rw [← hW6]; exact (alloc_bel _ _).drew
        have hnew : Blk W6 w5.heap.size 3 [.int .i64 (k : Int)] := by rw [← hW6]; exact (Blk.new w5 _ [_]).drewN 1
        have own6 := ownsRow_bel own5 hb6
        have hS6 : W6.cell? ⟨p, 0, none⟩ = some (.int .i64 (n : Int)) ∧ W6.cell? ⟨p, 1, none⟩ = some (.slice A l.length cp) ∧ W6.cell? ⟨p + 1, 0, none⟩ = some (.slice A' slots.length c') ∧ W6.cell? ⟨q, 0, none⟩ = some (.int .i64 (k : Int)) := ⟨(hX5.bel hb6).cell 0, (hX5.bel hb6).cell 1, (hV5.bel hb6).cell 0, (hK5.bel hb6).cell 0⟩
        have hr6 := hr5.bel hb6
        have hs6 := hb6.size
        rw [hW6]
        clear hW6 hSd
        try dsimp only
        refine hK _ _ hS6 ?_
        clear hK K
        refine nextH (i := 4) (by kernel_rfl) rfl (fun K hK => ?_)
        refine step_append_two W6 (by rfl) _ _ _ (by rfl) n₀ 3 i0 _ 1 8 Try.underlying36 hi iz0 iz1 iz2 rfl (by decide) _ slots.length (ints slots) (by rfl) own6 ⟨_, 0, none⟩ 1 1 [.int .i64 (k : Int)] (by rfl) rfl (World.news_of_block hnew) (by simp [Value.oneCell']) (by decide) (by unfold maxLen; omega) (by omega) (by omega) ?_
        intro v7 W7 own7 hg7 hcase
        obtain ⟨B', cb', rfl⟩ := ownsRow_slice own7
        have hb7 : ∀ j, Value.ownBlock (.slice B' (slots.length + 1) cb') = some j → Value.ownBlock (.slice A' slots.length c') = some j ∨ W6.heap.size = j := fun j hj => by
          rcases hcase with ⟨g, cc, h1, h2⟩ | ⟨h1, _⟩
          · rw [h2] at hj; rw [h1]; exact .inl hj
          · rw [h1] at hj; injection hj with hj; exact .inr hj
        have hS7 : W7.cell? ⟨p, 0, none⟩ = some (.int .i64 (n : Int)) ∧ W7.cell? ⟨p, 1, none⟩ = some (.slice A l.length cp) ∧ W7.cell? ⟨p + 1, 0, none⟩ = some (.slice A' slots.length c') ∧ W7.cell? ⟨q, 0, none⟩ = some (.int .i64 (k : Int)) := by
          obtain ⟨g0, g1, g2, g3⟩ := hS6
          exact ⟨grown_cell hg7 g0 fun j hj => by have := hrow j hj; omega, grown_cell hg7 g1 fun j hj => by have := hrow j hj; omega, grown_cell hg7 g2 fun j hj => by have := hrow j hj; omega, grown_cell hg7 g3 fun j hj => by have := hrow j hj; omega⟩
        have hr7 : Rd W7 A (gs l) := Rd.grown hr6 hg7 (fun hx b off e j hj => by have := hrow j hj; have := hlow hx b off e; omega)
        simp only [Act.put, List.getElem_toArray, List.getElem_cons_zero, List.getElem_cons_succ, List.setIfInBounds_toArray, List.set_cons_zero, List.set_cons_succ]
        refine hK _ _ hS7 ?_
        clear hK K hS6
        have HI := HIH.out (slots ++ [(k : Int)]) B' cb' W7 (by have := HN.out; simp; omega) (by have := hg7.size; omega) (by rw [ints_append, List.length_append]; exact own7) hr7 hlow (by simp)
        rw [List.length_append, List.length_singleton, ← HT0.out] at HI
        have HG7 := hide hb7
        have hsz7 := hg7.size
        have HR0 := hide hcase
        have HO6 := hide own6
        have HGW := hide hgW
        have HG5 := hide (tr hb05 hb6 hb05.size)
        have HGA := hide hg7
        clear hb7 hcase own6 own5 ownr hgW hg7 hr7 hr6 hr5 hX5 hV5 hK5 hnew hb6 hb05 own7
        generalize hres : tryF l count r slots k = rs at HI HT0
        cases rs with
        | none =>
          have HI2 : Hid (Calls Try.prog 25 #[.agg #[.int .i64 (n : Int), .slice A l.length cp], .slice B' (slots.length + 1) cb', .int .i64 (count : Int)] W7 fun e w' => e = .returned (.slice none 0 0) ∧ w'.ownsRow n₀ 3 1 (.slice B' (slots.length + 1) cb') (slots.length + 1) (ints slots ++ [.int .i64 (k : Int)]) ∧ W7.grownBy w' (Value.ownBlock (.slice B' (slots.length + 1) cb'))) := HI.mono fun e w' hx => by
            have h2 := hx.2.1 rfl
            rw [ints_append, List.length_append] at h2
            exact ⟨h2.1, h2.2, hx.2.2⟩
          have HRS := hide hres
          clear HI hres HT0
          refine nextH (i := 6) (by kernel_rfl) rfl (fun K hK => ?_)
          go_simp
          refine HI2.out.mono ?_
          rintro e W8 ⟨rfl, own8, hg8⟩
          try dsimp only
          have hback := own_back HO6.out HR0.out own8 hg8
          have hS8 : W8.cell? ⟨p, 0, none⟩ = some (.int .i64 (n : Int)) ∧ W8.cell? ⟨p, 1, none⟩ = some (.slice A l.length cp) ∧ W8.cell? ⟨p + 1, 0, none⟩ = some (.slice A' slots.length c') ∧ W8.cell? ⟨q, 0, none⟩ = some (.int .i64 (k : Int)) := by
            obtain ⟨g0, g1, g2, g3⟩ := hS7
            have hne : ∀ j, Value.ownBlock (.slice B' (slots.length + 1) cb') = some j → j ≠ p ∧ j ≠ p + 1 ∧ j ≠ q := fun j hj => by
              rcases HG7.out j hj with h | h
              · have := hrow j h; omega
              · omega
            exact ⟨grown_cell hg8 g0 fun j hj => (hne j hj).1, grown_cell hg8 g1 fun j hj => (hne j hj).1, grown_cell hg8 g2 fun j hj => (hne j hj).2.1, grown_cell hg8 g3 fun j hj => (hne j hj).2.2⟩
          have HGG : Hid (W.grownBy W8 (Value.ownBlock (.slice A' slots.length c'))) := grownBy_tr (grownBy_tr (grownBy_tr HGW.out (grownBy_bel (row := none) HG5.out) (fun j hj => by cases hj)) HGA.out (fun j hj => .inl hj)) hg8 (fun j hj => by
            rcases HG7.out j hj with h | h
            · exact .inl h
            · exact .inr (by omega))
          refine hK _ _ hS8 ?_
          clear hK K HI2 own8 hg8
          refine nextH (i := 7) (by kernel_rfl) rfl (fun K hK => ?_)
          go_simp
          refine hK _ _ hS8 ?_
          clear hK K
          refine wpAnyH_done (by kernel_rfl) ?_ _
          go_wp2
          refine ⟨⟨k + 1, by omega, by go_num, HGG.out, hback, fun s hs => ?_⟩, by simp [intOf]; omega⟩
          by_cases e : s = k
          · subst e; exact HRS.out
          · exact h0.out s (by omega)
        | some out =>
          have HI2 : Hid (Calls Try.prog 25 #[.agg #[.int .i64 (n : Int), .slice A l.length cp], .slice B' (slots.length + 1) cb', .int .i64 (count : Int)] W7 fun e w' => ∃ g o c, e = .returned (.slice (some ⟨g, o, none⟩) n c) ∧ (Rd w' (some ⟨g, o, none⟩) (ints out) ∧ out.length = n) ∧ W7.grownBy w' (Value.ownBlock (.slice B' (slots.length + 1) cb'))) := HI.mono fun e w' hx => by
            obtain ⟨g, o, c, h1, h2⟩ := hx.1 out rfl
            exact ⟨g, o, c, h1, h2, hx.2.2⟩
          have HRS : Hid (res = some out) := by show _ = _; rw [HRES.out]; exact findSome_some hlt h0.out hres
          clear HI hres HT0
          refine nextH (i := 6) (by kernel_rfl) rfl (fun K hK => ?_)
          go_simp
          refine HI2.out.mono ?_
          rintro e W8 ⟨g, o, c, rfl, hout, hg8⟩
          try dsimp only
          have hS8 : W8.cell? ⟨p, 0, none⟩ = some (.int .i64 (n : Int)) ∧ W8.cell? ⟨p, 1, none⟩ = some (.slice A l.length cp) ∧ W8.cell? ⟨p + 1, 0, none⟩ = some (.slice A' slots.length c') ∧ W8.cell? ⟨q, 0, none⟩ = some (.int .i64 (k : Int)) := by
            obtain ⟨g0, g1, g2, g3⟩ := hS7
            have hne : ∀ j, Value.ownBlock (.slice B' (slots.length + 1) cb') = some j → j ≠ p ∧ j ≠ p + 1 ∧ j ≠ q := fun j hj => by
              rcases HG7.out j hj with h | h
              · have := hrow j h; omega
              · omega
            exact ⟨grown_cell hg8 g0 fun j hj => (hne j hj).1, grown_cell hg8 g1 fun j hj => (hne j hj).1, grown_cell hg8 g2 fun j hj => (hne j hj).2.1, grown_cell hg8 g3 fun j hj => (hne j hj).2.2⟩
          have HGG : Hid (w.grownBy W8 (Value.ownBlock (.slice A' slots.length c'))) := grownBy_tr (grownBy_tr (grownBy_tr (grownBy_tr hgr HGW.out (fun j hj => .inl hj)) (grownBy_bel (row := none) HG5.out) (fun j hj => by cases hj)) HGA.out (fun j hj => .inl hj)) hg8 (fun j hj => by
            rcases HG7.out j hj with h | h
            · exact .inl h
            · exact .inr (by have := hgr.size; omega))
          refine hK _ _ hS8 ?_
          clear hK K HI2 hg8
          refine nextH (i := 7) (by kernel_rfl) rfl (fun K hK => ?_)
          go_simp
          refine hK _ _ hS8 ?_
          clear hK K
          refine wpAnyH_done (by kernel_rfl) ?_ _
          go_wp2
          refine bodyPost_ret (v := .slice (some ⟨g, o, none⟩) n c) (by simp [results, Try.results25, go_sem]; try rfl) rfl ⟨fun out' ho => ?_, fun h => ?_, HGG.out⟩
          · rw [HRS.out] at ho
            injection ho with ho
            subst ho
            exact ⟨g, o, c, rfl, hout⟩
          · rw [HRS.out] at h
            cases h
    · obtain rfl : k = count := by omega
      have HRS : Hid (res = none) := by show _ = _; rw [HRES.out]; exact findSome_none h0.out
      have HGG : Hid (w.grownBy wr (Value.ownBlock (.slice A' slots.length c'))) := grownBy_tr hgr hgW (fun j hj => .inl hj)
      go_wp2
      refine bodyPost_ret (v := .slice none 0 0) (by simp [results, Try.results25, go_sem]; try rfl) rfl ⟨fun out' ho => ?_, fun _ => ⟨rfl, ownr⟩, HGG.out⟩
      rw [HRS.out] at ho
      cases ho

/-- Slots tried one by one. -/
theorem planFrom_c (l : List G) (A : Option Addr) (cp n count n₀ : Nat) (hn1 : 1 ≤ n) (hn8 : n ≤ 8) (hc8 : count ≤ 1000) (hl : l.length ≤ 1000) (hpairs : ∀ k (h : k < l.length), 0 ≤ l[k].1 ∧ l[k].1 < l[k].2) :
    ∀ (r : Nat) (slots : List Int) (A' : Option Addr) (c' : Nat) (w : World), slots.length + r = n → n₀ ≤ w.heap.size → w.ownsRow n₀ 3 1 (.slice A' slots.length c') slots.length (ints slots) → Rd w A (gs l) → (gs l ≠ [] → ∀ b off, A = some ⟨b, off, none⟩ → b < n₀) →
      Calls Try.prog 25 #[.agg #[.int .i64 (n : Int), .slice A l.length cp], .slice A' slots.length c', .int .i64 (count : Int)] w (PlanPost n n₀ (.slice A' slots.length c') slots w (planF l count r slots))
  | 0, slots, A', c', w, hn, hw, hown, hr, hlow => planFrom_zero l A cp n count n₀ slots A' c' w hn hn1 hn8 hown hr
  | r + 1, slots, A', c', w, hn, hw, hown, hr, hlow => planFrom_succ l A cp n count n₀ r hn8 hc8 hl hpairs (fun slots A' c' w h1 h2 h3 h4 h5 _ => planFrom_c l A cp n count n₀ hn1 hn8 hc8 hl hpairs r slots A' c' w h1 h2 h3 h4 h5) slots A' c' w hn hw hown hr hlow
end Go.Proofs.Ytnjdkdmfeonabaa
