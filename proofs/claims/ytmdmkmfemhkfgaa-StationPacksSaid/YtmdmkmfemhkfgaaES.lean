/- A group of texts (tools/groups.txt): E54 E55 E56. No condition but those that each says. -/
import Derived.Test.YtmdmkmfemhkfgaaE53
import Derived.Laws.OwnMore
set_option linter.unusedSimpArgs false
set_option linter.unusedVariables false
/- Contracts: the reference's differences. -/
set_option linter.unusedSimpArgs false
set_option linter.unusedVariables false
namespace Go.Proofs.Ytmdmkmfemhkfgaa
open Go.RowKit
set_option maxRecDepth 100000

set_option maxHeartbeats 2000000 in
theorem refDifferences_c (l : List Int) (A : Option Addr) (c : Nat) (w : World) (hr : Rd w A (ints l)) (hl : l.length ≤ 1000) (hw : Within 1000000000 l) :
    Calls Try.prog 68 #[.slice A l.length c] w fun r w' => (∃ A' c', r = .returned (.slice A' l.length c') ∧ Rd w' A' (ints (diffs 0 l))) ∧ Below w.heap.size w w' := by
  obtain ⟨i0, hi, iz0, iz1, iz2⟩ := info_parts Try.infoN
  have HW := hide hw
  clear hw
  go_enter Try.func68, Try.ntmps68
  go_wp2
  go_loopw [3, 4] (fun v x wr => ∃ k : Nat, k ≤ l.length ∧ x = .int .i64 k ∧ Below w.heap.size w wr ∧ wr.ownsRow w.heap.size 3 1 v k (ints (diffs 0 (l.take k)))) (fun _ x _ => l.length - (intOf x).toNat)
  case atStart => exact ⟨0, Nat.zero_le _, rfl, Below.refl _ _, by simpa [diffs] using World.ownsRow_nil _ _ _ _⟩
  case round =>
    obtain ⟨k, hk, rfl, hbr, hown⟩ := hrel
    have hsz := hbr.size
    by_cases hlt : k < l.length
    · obtain ⟨b, off, rfl, hblt, x0⟩ := (hr.bel hbr).int_at hlt
      have iL : (k : Int) < (l.length : Int) := by omega
      have hx := HW.out l[k] (List.getElem_mem hlt)
      have HN := diffs_snoc 0 (l.take k) l[k]
      rw [← List.take_succ_eq_append_getElem hlt] at HN
      obtain ⟨A3, c3, rfl⟩ := ownsRow_slice hown
      by_cases hk0 : k = 0
      · have e1 : ((k : Int) == 0) = true := by subst hk0; rfl
        have HN2 : Hid (diffs 0 (l.take (k + 1)) = diffs 0 (l.take k) ++ [l[k]]) := by show _ = _; rw [HN]; subst hk0; simp
        clear HN hk0
        generalize l[k] = x at x0 hx HN2
        go_wp2_with (at_builtin; refine wpList_append_own _ rfl _ _ 47 rfl w.heap.size 3 i0 _ 1 8 Try.underlying47 hi iz0 iz1 iz2 rfl (by decide) _ _ _ rfl (hown.alloc _) ⟨wr.heap.size, 0, none⟩ 1 1 [.int .i64 x] rfl rfl (World.news_of_block (heap_alloc_new wr _)) (by simp [Value.oneCell']) (by unfold maxLen; omega) (by omega) (by simp; omega) ?_; intro v' w8 hown8 hg8 _)
        have hb8 : Below w.heap.size w w8 := (bel_alloc hbr hsz _).grown hg8 (by simp; omega) (fun j hj => by have := (hown.lt j hj).1; omega)
        go_roundw
        case rel => exact ⟨k + 1, by omega, by go_num, hb8, by rw [HN2.out, ints_append]; exact hown8⟩
        case measure => simp [intOf]; omega
      · have e1 : ((k : Int) == 0) = false := by simpa using hk0
        have hlt' : k - 1 < l.length := by omega
        obtain ⟨_, _, e', _, y0⟩ := (hr.bel hbr).int_at hlt'
        injection e' with e'
        injection e' with eb eo
        subst eb eo
        have hy := HW.out l[k - 1] (List.getElem_mem hlt')
        have HN2 : Hid (diffs 0 (l.take (k + 1)) = diffs 0 (l.take k) ++ [l[k] - l[k - 1]]) := by
          show _ = _
          rw [HN, List.getLastD_eq_getLast?, List.getLast?_eq_getElem?, List.length_take_of_le (by omega), List.getElem?_take, if_pos (by omega), List.getElem?_eq_getElem hlt']
          rfl
        have u1 : IntKind.i64.wrap ((k : Int) - 1) = ((k - 1 : Nat) : Int) := by rw [show ((k - 1 : Nat) : Int) = (k : Int) - 1 by omega]; simp (disch := omega) only [IntWalk.i64_in]
        have i1 : ((k - 1 : Nat) : Int) < (l.length : Int) := by omega
        clear HN
        generalize l[k] = x at x0 hx HN2
        generalize l[k - 1] = y at y0 hy HN2
        have u2 : IntKind.i64.wrap (x - y) = x - y := by simp (disch := omega) only [IntWalk.i64_in]
        have x0d : wr.drew.cell? ⟨b, off + k, none⟩ = some (.int .i64 x) := x0
        have y0d : wr.drew.cell? ⟨b, off + (k - 1), none⟩ = some (.int .i64 y) := y0
        have hbw : b < w.heap.size := hr.low (by intro h; have h' := congrArg List.length h; rw [ints_length, List.length_nil] at h'; omega) b off rfl
        generalize hkm : k - 1 = km at u1 i1 y0 y0d
        have hkm' := hide hkm
        clear hkm
        go_upto_region 7 with fail
        have hcl : ∀ W', Below w.heap.size w W' → (∀ b o, b < w.heap.size → W'.cell? ⟨b, o, none⟩ = wr.cell? ⟨b, o, none⟩) ∧ Below w.heap.size w W' := fun W' hb => ⟨fun b o h => (hb.cell (p := ⟨b, o, none⟩) h).trans (hbr.cell (p := ⟨b, o, none⟩) h).symm, hb⟩
        have hSd : (∀ b o, b < w.heap.size → wr.drew.cell? ⟨b, o, none⟩ = wr.cell? ⟨b, o, none⟩) ∧ Below w.heap.size w wr.drew := hcl _ hbr.drew
        refine wp_region_held (S := fun w' => (∀ b o, b < w.heap.size → w'.cell? ⟨b, o, none⟩ = wr.cell? ⟨b, o, none⟩) ∧ Below w.heap.size w w') (by kernel_rfl) ?_
        change wpAnyH _ _ _ _ _ _ _ _ wr.drew
        clear x0d y0d
        refine wpAnyH_take (i := 0) (v := ?_) rfl (by kernel_rfl) (by kernel_rfl) (by kernel_rfl) (fun _ _ _ h => h) (Or.inl ⟨by kernel_rfl, ?_⟩) (by assumption) ?_
        rotate_left 1
        · (intro w hSw; obtain ⟨hk1, hk2⟩ := hSw; go_simp <;> with_reducible rfl)
        simp only [Act.put, List.getElem_toArray, List.getElem_cons_zero, List.setIfInBounds_toArray, List.set_cons_zero, List.set_cons_succ]
        refine wpAnyH_take (i := 1) (v := ?_) rfl (by kernel_rfl) (by kernel_rfl) (by kernel_rfl) (fun _ _ _ h => h) (Or.inl ⟨by kernel_rfl, ?_⟩) (by assumption) ?_
        rotate_left 1
        · (intro w hSw; obtain ⟨hk1, hk2⟩ := hSw; go_simp <;> with_reducible rfl)
        simp only [Act.put, List.getElem_toArray, List.getElem_cons_zero, List.getElem_cons_succ, List.setIfInBounds_toArray, List.set_cons_zero, List.set_cons_succ]
        refine wpAnyH_take (i := 2) (v := ?_) rfl (by kernel_rfl) (by kernel_rfl) (by kernel_rfl) (fun _ _ _ h => h) (Or.inl ⟨by kernel_rfl, ?_⟩) (by assumption) ?_
        rotate_left 1
        · (intro w hSw; obtain ⟨hk1, hk2⟩ := hSw; go_simp <;> with_reducible rfl)
        simp only [Act.put, List.getElem_toArray, List.getElem_cons_zero, List.getElem_cons_succ, List.setIfInBounds_toArray, List.set_cons_zero, List.set_cons_succ]
        refine wpAnyH_take (i := 3) (v := ?_) rfl (by kernel_rfl) (by kernel_rfl) (by kernel_rfl) (fun _ _ _ h => h) (Or.inl ⟨by kernel_rfl, ?_⟩) (by assumption) ?_
        rotate_left 1
        · (intro w hSw; obtain ⟨hk1, hk2⟩ := hSw; go_simp <;> with_reducible rfl)
        simp only [Act.put, List.getElem_toArray, List.getElem_cons_zero, List.getElem_cons_succ, List.setIfInBounds_toArray, List.set_cons_zero, List.set_cons_succ]
        refine wpAnyH_take (i := 4) (v := ?_) rfl (by kernel_rfl) (by kernel_rfl) (by kernel_rfl) (fun _ _ _ h => h) (Or.inl ⟨by kernel_rfl, ?_⟩) (by assumption) ?_
        rotate_left 1
        · (intro w hSw; obtain ⟨hk1, hk2⟩ := hSw; go_simp <;> with_reducible rfl)
        simp only [Act.put, List.getElem_toArray, List.getElem_cons_zero, List.getElem_cons_succ, List.setIfInBounds_toArray, List.set_cons_zero, List.set_cons_succ]
        refine wpAnyH_take (i := 5) (v := ?_) rfl (by kernel_rfl) (by kernel_rfl) (by kernel_rfl) (fun _ _ _ h => h) (Or.inl ⟨by kernel_rfl, ?_⟩) (by assumption) ?_
        rotate_left 1
        · (intro w hSw; obtain ⟨hk1, hk2⟩ := hSw; go_simp <;> with_reducible rfl)
        simp only [Act.put, List.getElem_toArray, List.getElem_cons_zero, List.getElem_cons_succ, List.setIfInBounds_toArray, List.set_cons_zero, List.set_cons_succ]
        refine wpAnyH_take (i := 6) (v := ?_) rfl (by kernel_rfl) (by kernel_rfl) (by kernel_rfl) (fun _ _ _ h => h) (Or.inl ⟨by kernel_rfl, ?_⟩) (by assumption) ?_
        rotate_left 1
        · (intro w hSw; obtain ⟨hk1, hk2⟩ := hSw; go_simp <;> with_reducible rfl)
        simp only [Act.put, List.getElem_toArray, List.getElem_cons_zero, List.getElem_cons_succ, List.setIfInBounds_toArray, List.set_cons_zero, List.set_cons_succ]
        refine wpAnyH_take (i := 7) (v := ?_) rfl (by kernel_rfl) (by kernel_rfl) (by kernel_rfl) (fun _ _ _ h => h) (Or.inl ⟨by kernel_rfl, ?_⟩) (by assumption) ?_
        rotate_left 1
        · (intro w hSw; obtain ⟨hk1, hk2⟩ := hSw; go_simp <;> with_reducible rfl)
        simp only [Act.put, List.getElem_toArray, List.getElem_cons_zero, List.getElem_cons_succ, List.setIfInBounds_toArray, List.set_cons_zero, List.set_cons_succ]
        refine wpAnyH_take (i := 8) (v := ?_) rfl (by kernel_rfl) (by kernel_rfl) (by kernel_rfl) (fun _ _ _ h => h) (Or.inl ⟨by kernel_rfl, ?_⟩) (by assumption) ?_
        rotate_left 1
        · (intro w hSw; obtain ⟨hk1, hk2⟩ := hSw; go_simp <;> with_reducible rfl)
        simp only [Act.put, List.getElem_toArray, List.getElem_cons_zero, List.getElem_cons_succ, List.setIfInBounds_toArray, List.set_cons_zero, List.set_cons_succ]
        refine wpAnyH_take (i := 9) (v := ?_) rfl (by kernel_rfl) (by kernel_rfl) (by kernel_rfl) (fun _ _ _ h => h) (Or.inl ⟨by kernel_rfl, ?_⟩) (by assumption) ?_
        rotate_left 1
        · (intro w hSw; obtain ⟨hk1, hk2⟩ := hSw; go_simp <;> with_reducible rfl)
        simp only [Act.put, List.getElem_toArray, List.getElem_cons_zero, List.getElem_cons_succ, List.setIfInBounds_toArray, List.set_cons_zero, List.set_cons_succ]
        refine wpAnyH_take (i := 10) (v := ?_) rfl (by kernel_rfl) (by kernel_rfl) (by kernel_rfl) (fun _ _ _ h => h) (Or.inl ⟨by kernel_rfl, ?_⟩) (by assumption) ?_
        rotate_left 1
        · (intro w hSw; obtain ⟨hk1, hk2⟩ := hSw; go_simp <;> with_reducible rfl)
        simp only [Act.put, List.getElem_toArray, List.getElem_cons_zero, List.getElem_cons_succ, List.setIfInBounds_toArray, List.set_cons_zero, List.set_cons_succ]
        refine nextH (i := 11) (by kernel_rfl) rfl (fun K hK => ?_)
        go_simp
        obtain ⟨w5, hw5⟩ : ∃ w5, (wr.alloc (.cells #[.int .i64 (x - y)] 3)).drew = w5 := ⟨_, rfl⟩
        have hb5 : Below wr.heap.size wr w5 := by rw [← hw5]; exact (alloc_bel _ _).drew
        have hrd5 : Rd w5 (some ⟨wr.heap.size, 0, none⟩) [.int .i64 (x - y)] := by rw [← hw5]; exact (rd_new wr 3 [_]).bel (Below.refl _ _).drew
        rw [hw5]
        clear hw5 hSd
        have hb58 : Below w.heap.size w w5 := bel_tr hbr hsz hb5
        have hSd := hcl _ hb58
        refine hK _ _ hSd ?_
        clear hK K
        have hown5 := ownsRow_bel hown hb5
        refine nextH (i := 12) (by kernel_rfl) rfl (fun K hK => ?_)
        refine step_append_rd _ (by rfl) _ _ _ (by rfl) w.heap.size 3 i0 _ 1 8 Try.underlying47 hi iz0 iz1 iz2 rfl (by decide) (.slice A3 k c3) k (ints (diffs 0 (l.take k))) (by rfl) hown5 (some ⟨wr.heap.size, 0, none⟩) 1 1 [.int .i64 (x - y)] (by rfl) rfl hrd5 (by simp [Value.oneCell']) (by unfold maxLen; omega) (by omega) (by have := hb5.size; omega) ?_
        intro v8 w8 hown8 hg8
        have hb8 : Below w.heap.size w w8 := hb58.grown hg8 (by have := hb5.size; omega) (fun j hj => by have := (hown.lt j hj).1; omega)
        obtain ⟨A8, c8, rfl⟩ := ownsRow_slice hown8
        simp only [Act.put, List.getElem_toArray, List.getElem_cons_zero, List.getElem_cons_succ, List.setIfInBounds_toArray, List.set_cons_zero, List.set_cons_succ]
        have hS8 := hcl _ hb8
        refine hK _ _ hS8 ?_
        clear hK K
        refine nextH (i := 13) (by kernel_rfl) rfl (fun K hK => ?_)
        go_simp
        refine hK _ _ hS8 ?_
        clear hK K
        refine wpAnyH_done (by kernel_rfl) ?_ _
        go_wp2
        go_roundw
        case rel => exact ⟨k + 1, by omega, by go_num, hb8, by rw [HN2.out, ints_append]; exact hown8⟩
        case measure => simp [intOf]; omega
    · obtain rfl : k = l.length := by omega
      obtain ⟨A', c', rfl⟩ := ownsRow_slice hown
      have hrw := Rd.of_own hown
      rw [List.take_of_length_le (Nat.le_refl _)] at hrw
      go_wp2
      go_ret
      exact ⟨⟨A', c', rfl, hrw⟩, hbr⟩
end Go.Proofs.Ytmdmkmfemhkfgaa

/- Contracts: the reference's runs. -/
set_option linter.unusedSimpArgs false
set_option linter.unusedVariables false
namespace Go.Proofs.Ytmdmkmfemhkfgaa
open Go.RowKit
set_option maxRecDepth 100000

theorem runsFrom_end : ∀ (l : List Int) (y n : Int), ∃ P z m, runsFrom y n l = P ++ [(z, m)]
  | [], y, n => ⟨[], y, n, rfl⟩
  | x :: l, y, n => by
    rw [runsFrom]
    by_cases h : x = y
    · rw [if_pos h]; exact runsFrom_end l y (n + 1)
    · rw [if_neg h]
      obtain ⟨P, z, m, e⟩ := runsFrom_end l x 1
      exact ⟨(y, n) :: P, z, m, by rw [e]; rfl⟩
theorem runsFrom_snoc : ∀ (l : List Int) (y n x : Int) (P : List G) (z m : Int), runsFrom y n l = P ++ [(z, m)] → runsFrom y n (l ++ [x]) = if x = z then P ++ [(z, m + 1)] else P ++ [(z, m), (x, 1)]
  | [], y, n, x, P, z, m, h => by
    have h' : [(y, n)] = P ++ [(z, m)] := h
    cases P with
    | nil =>
      injection h' with h'
      injection h' with h1 h2
      subst h1 h2
      simp only [List.nil_append, runsFrom]
    | cons p P =>
      injection h' with _ h'
      cases P <;> cases h'
  | u :: l, y, n, x, P, z, m, h => by
    rw [List.cons_append, runsFrom]
    rw [runsFrom] at h
    by_cases hu : u = y
    · rw [if_pos hu] at h ⊢
      exact runsFrom_snoc l y (n + 1) x P z m h
    · rw [if_neg hu] at h ⊢
      obtain ⟨P', z', m', e⟩ := runsFrom_end l u 1
      cases P with
      | nil =>
        rw [e] at h
        injection h with _ h
        have := congrArg List.length h
        simp at this
      | cons p P =>
        injection h with h1 h2
        subst h1
        rw [runsFrom_snoc l u 1 x P z m h2]
        by_cases hx : x = z
        · rw [if_pos hx, if_pos hx]; rfl
        · rw [if_neg hx, if_neg hx]; rfl
theorem runsL_end {l : List Int} (h : l ≠ []) : ∃ P z m, runsL l = P ++ [(z, m)] := by
  cases l with
  | nil => exact absurd rfl h
  | cons x l => exact runsFrom_end l x 1
theorem runsL_snoc {l : List Int} {P : List G} {z m : Int} (x : Int) (h : runsL l = P ++ [(z, m)]) : runsL (l ++ [x]) = if x = z then P ++ [(z, m + 1)] else P ++ [(z, m), (x, 1)] := by
  cases l with
  | nil => simp [runsL] at h
  | cons u l => exact runsFrom_snoc l u 1 x P z m h
theorem flat_append (a b : List G) : flat (a ++ b) = flat a ++ flat b := by simp [flat]
theorem own_someE {w : World} {base : Nat} {e : TypeId} {size n : Nat} {v : Value} {xs : List Value} (h : w.ownsRow base e size v n xs) (h1 : 1 ≤ n) : ∃ g cap, v = .slice (some ⟨g, 0, none⟩) n cap ∧ base ≤ g ∧ g < w.heap.size := by
  rcases h.2 with ⟨rfl, rfl⟩ | ⟨g, cap, cur, rfl, hb, hg, _⟩
  · omega
  · exact ⟨g, cap, rfl, hb, (Array.getElem?_eq_some_iff.1 hg).1⟩
set_option maxHeartbeats 2000000 in
theorem refRuns_c (l : List Int) (A : Option Addr) (c : Nat) (w : World) (hr : Rd w A (ints l)) (hl : l.length ≤ 1000) :
    Calls Try.prog 67 #[.slice A l.length c] w fun r w' => (∃ A' c', r = .returned (.slice A' (flat (runsL l)).length c') ∧ RdT w' 3 A' (ints (flat (runsL l)))) ∧ Below w.heap.size w w' := by
  obtain ⟨i0, hi, iz0, iz1, iz2⟩ := info_parts Try.infoN
  go_enter Try.func67, Try.ntmps67
  go_wp2
  go_loopw [3, 4] (fun v x wr => ∃ (k N : Nat) (F : List Int), k ≤ l.length ∧ x = .int .i64 k ∧ Below w.heap.size w wr ∧ Hid (F = flat (runsL (l.take k))) ∧ Hid (F.length = N) ∧ N ≤ 2000 ∧ wr.ownsRow w.heap.size 3 1 v N (ints F)) (fun _ x _ => l.length - (intOf x).toNat)
  case atStart => exact ⟨0, 0, [], Nat.zero_le _, rfl, Below.refl _ _, rfl, rfl, by omega, World.ownsRow_nil _ _ _ _⟩
  case round =>
    obtain ⟨k, N, F, hk, rfl, hbr, hF, hN, hN2, hown⟩ := hrel
    have hsz := hbr.size
    by_cases hlt : k < l.length
    · obtain ⟨b, off, rfl, hblt, x0⟩ := (hr.bel hbr).int_at hlt
      have iL : (k : Int) < (l.length : Int) := by omega
      have hbw : b < w.heap.size := hr.low (by intro h; have h' := congrArg List.length h; rw [ints_length, List.length_nil] at h'; omega) b off rfl
      have HT : Hid (l.take (k + 1) = l.take k ++ [l[k]]) := List.take_succ_eq_append_getElem hlt
      have hcl : ∀ W', Below w.heap.size w W' → (∀ b o, b < w.heap.size → W'.cell? ⟨b, o, none⟩ = wr.cell? ⟨b, o, none⟩) ∧ Below w.heap.size w W' := fun W' hb => ⟨fun b o h => (hb.cell (p := ⟨b, o, none⟩) h).trans (hbr.cell (p := ⟨b, o, none⟩) h).symm, hb⟩
      have hSd : (∀ b o, b < w.heap.size → wr.drew.cell? ⟨b, o, none⟩ = wr.cell? ⟨b, o, none⟩) ∧ Below w.heap.size w wr.drew := hcl _ hbr.drew
      generalize l[k] = x at x0 HT
      by_cases hk0 : k = 0
      · have HF0 : Hid (F = []) := by show _ = _; rw [hF.out, hk0]; rfl
        have hN0 : N = 0 := by rw [← hN.out, HF0.out]; rfl
        have HX : Hid (flat (runsL (l.take (k + 1))) = F ++ [x, 1]) := by show _ = _; rw [HT.out, HF0.out, show l.take k = [] by rw [hk0]; rfl]; simp [runsL, runsFrom, flat]
        obtain ⟨A3, c3, rfl⟩ := ownsRow_slice hown
        have e1 : decide (0 < N) = false := decide_eq_false (by omega)
        have e2 : ¬ 0 < N := by omega
        clear hk0 hF HT
        have hN0' := hide hN0
        clear hN0
        go_upto_region 6 with fail
        refine wp_region_held (S := fun w' => (∀ b o, b < w.heap.size → w'.cell? ⟨b, o, none⟩ = wr.cell? ⟨b, o, none⟩) ∧ Below w.heap.size w w') (by kernel_rfl) ?_
        change wpAnyH _ _ _ _ _ _ _ _ wr.drew
        refine wpAnyH_take (i := 0) (v := ?_) rfl (by kernel_rfl) (by kernel_rfl) (by kernel_rfl) (fun _ _ _ h => h) (Or.inl ⟨by kernel_rfl, ?_⟩) (by assumption) ?_
        rotate_left 1
        · (intro w hSw; obtain ⟨hk1, hk2⟩ := hSw; go_simp <;> with_reducible rfl)
        simp only [Act.put, List.getElem_toArray, List.getElem_cons_zero, List.setIfInBounds_toArray, List.set_cons_zero, List.set_cons_succ]
        refine wpAnyH_take (i := 1) (v := ?_) rfl (by kernel_rfl) (by kernel_rfl) (by kernel_rfl) (fun _ _ _ h => h) (Or.inl ⟨by kernel_rfl, ?_⟩) (by assumption) ?_
        rotate_left 1
        · (intro w hSw; obtain ⟨hk1, hk2⟩ := hSw; go_simp <;> with_reducible rfl)
        simp only [Act.put, List.getElem_toArray, List.getElem_cons_zero, List.getElem_cons_succ, List.setIfInBounds_toArray, List.set_cons_zero, List.set_cons_succ]
        refine wpAnyH_take (i := 2) (v := ?_) rfl (by kernel_rfl) (by kernel_rfl) (by kernel_rfl) (fun _ _ _ h => h) (Or.inl ⟨by kernel_rfl, ?_⟩) (by assumption) ?_
        rotate_left 1
        · (intro w hSw; obtain ⟨hk1, hk2⟩ := hSw; go_simp <;> with_reducible rfl)
        simp only [Act.put, List.getElem_toArray, List.getElem_cons_zero, List.getElem_cons_succ, List.setIfInBounds_toArray, List.set_cons_zero, List.set_cons_succ]
        refine wpAnyH_take (i := 3) (v := undef) rfl (by kernel_rfl) (by kernel_rfl) (by kernel_rfl) (fun _ _ _ h => h) (Or.inr ⟨by kernel_rfl, rfl⟩) (by assumption) ?_
        simp only [Act.put, List.getElem_toArray, List.getElem_cons_zero, List.getElem_cons_succ, List.setIfInBounds_toArray, List.set_cons_zero, List.set_cons_succ]
        refine wpAnyH_take (i := 4) (v := undef) rfl (by kernel_rfl) (by kernel_rfl) (by kernel_rfl) (fun _ _ _ h => h) (Or.inr ⟨by kernel_rfl, rfl⟩) (by assumption) ?_
        simp only [Act.put, List.getElem_toArray, List.getElem_cons_zero, List.getElem_cons_succ, List.setIfInBounds_toArray, List.set_cons_zero, List.set_cons_succ]
        refine wpAnyH_take (i := 5) (v := undef) rfl (by kernel_rfl) (by kernel_rfl) (by kernel_rfl) (fun _ _ _ h => h) (Or.inr ⟨by kernel_rfl, rfl⟩) (by assumption) ?_
        simp only [Act.put, List.getElem_toArray, List.getElem_cons_zero, List.getElem_cons_succ, List.setIfInBounds_toArray, List.set_cons_zero, List.set_cons_succ]
        refine wpAnyH_take (i := 6) (v := undef) rfl (by kernel_rfl) (by kernel_rfl) (by kernel_rfl) (fun _ _ _ h => h) (Or.inr ⟨by kernel_rfl, rfl⟩) (by assumption) ?_
        simp only [Act.put, List.getElem_toArray, List.getElem_cons_zero, List.getElem_cons_succ, List.setIfInBounds_toArray, List.set_cons_zero, List.set_cons_succ]
        refine wpAnyH_take (i := 7) (v := undef) rfl (by kernel_rfl) (by kernel_rfl) (by kernel_rfl) (fun _ _ _ h => h) (Or.inr ⟨by kernel_rfl, rfl⟩) (by assumption) ?_
        simp only [Act.put, List.getElem_toArray, List.getElem_cons_zero, List.getElem_cons_succ, List.setIfInBounds_toArray, List.set_cons_zero, List.set_cons_succ]
        refine wpAnyH_take (i := 8) (v := undef) rfl (by kernel_rfl) (by kernel_rfl) (by kernel_rfl) (fun _ _ _ h => h) (Or.inr ⟨by kernel_rfl, rfl⟩) (by assumption) ?_
        simp only [Act.put, List.getElem_toArray, List.getElem_cons_zero, List.getElem_cons_succ, List.setIfInBounds_toArray, List.set_cons_zero, List.set_cons_succ]
        refine wpAnyH_take (i := 9) (v := undef) rfl (by kernel_rfl) (by kernel_rfl) (by kernel_rfl) (fun _ _ _ h => h) (Or.inr ⟨by kernel_rfl, rfl⟩) (by assumption) ?_
        simp only [Act.put, List.getElem_toArray, List.getElem_cons_zero, List.getElem_cons_succ, List.setIfInBounds_toArray, List.set_cons_zero, List.set_cons_succ]
        refine wpAnyH_take (i := 10) (v := undef) rfl (by kernel_rfl) (by kernel_rfl) (by kernel_rfl) (fun _ _ _ h => h) (Or.inr ⟨by kernel_rfl, rfl⟩) (by assumption) ?_
        simp only [Act.put, List.getElem_toArray, List.getElem_cons_zero, List.getElem_cons_succ, List.setIfInBounds_toArray, List.set_cons_zero, List.set_cons_succ]
        refine wpAnyH_take (i := 11) (v := undef) rfl (by kernel_rfl) (by kernel_rfl) (by kernel_rfl) (fun _ _ _ h => h) (Or.inr ⟨by kernel_rfl, rfl⟩) (by assumption) ?_
        simp only [Act.put, List.getElem_toArray, List.getElem_cons_zero, List.getElem_cons_succ, List.setIfInBounds_toArray, List.set_cons_zero, List.set_cons_succ]
        refine wpAnyH_take (i := 12) (v := undef) rfl (by kernel_rfl) (by kernel_rfl) (by kernel_rfl) (fun _ _ _ h => h) (Or.inr ⟨by kernel_rfl, rfl⟩) (by assumption) ?_
        simp only [Act.put, List.getElem_toArray, List.getElem_cons_zero, List.getElem_cons_succ, List.setIfInBounds_toArray, List.set_cons_zero, List.set_cons_succ]
        refine wpAnyH_take (i := 13) (v := ?_) rfl (by kernel_rfl) (by kernel_rfl) (by kernel_rfl) (fun _ _ _ h => h) (Or.inl ⟨by kernel_rfl, ?_⟩) (by assumption) ?_
        rotate_left 1
        · (intro w hSw; obtain ⟨hk1, hk2⟩ := hSw; go_simp <;> with_reducible rfl)
        simp only [Act.put, List.getElem_toArray, List.getElem_cons_zero, List.getElem_cons_succ, List.setIfInBounds_toArray, List.set_cons_zero, List.set_cons_succ]
        refine wpAnyH_done (by kernel_rfl) ?_ _
        go_wp2_with (at_builtin; refine wpList_append_own _ rfl _ _ 47 rfl w.heap.size 3 i0 _ 1 8 Try.underlying47 hi iz0 iz1 iz2 rfl (by decide) _ _ _ rfl ((ownsRow_bel hown (Below.refl _ _).drew).alloc _) ⟨wr.heap.size, 0, none⟩ 2 2 [.int .i64 x, .int .i64 1] rfl rfl (World.news_of_block (heap_alloc_new wr.drew _)) (by simp [Value.oneCell']) (by unfold maxLen; omega) (by omega) (by simp; omega) ?_; intro v' w8 hown8 hg8 _)
        have hb8 : Below w.heap.size w w8 := (bel_alloc hbr.drew hsz _).grown hg8 (by simp; omega) (fun j hj => by have := (hown.lt j hj).1; omega)
        go_roundw
        case rel => exact ⟨k + 1, N + 2, F ++ [x, 1], by omega, by go_num, hb8, HX.out.symm, by (show _ = _); rw [List.length_append, hN.out]; rfl, by have := hN0'.out; omega, by rw [ints_append]; exact hown8⟩
        case measure => simp [intOf]; omega
      · have hne : l.take k ≠ [] := fun h => by have := congrArg List.length h; rw [List.length_take_of_le (by omega), List.length_nil] at this; omega
        obtain ⟨P, z, m, hRP⟩ := runsL_end hne
        have hFP : Hid (F = flat P ++ [z, m]) := by show _ = _; rw [hF.out, hRP, flat_append]; rfl
        have hcnt := runsL_count (l.take k) (z, m) (by rw [hRP]; simp)
        dsimp only at hcnt
        rw [List.length_take_of_le (by omega)] at hcnt
        have hsn := runsL_snoc x hRP
        have hlenR : Hid (N ≤ 2 * k) := by
          show _ ≤ _
          rw [← hN.out, hF.out, flat_length]
          have := runsL_length (l.take k)
          rw [List.length_take_of_le (by omega)] at this
          omega
        obtain ⟨q, hq⟩ : ∃ q, q = (flat P).length := ⟨_, rfl⟩
        have hNq : N = q + 2 := by rw [← hN.out, hFP.out, List.length_append, hq]; rfl
        obtain ⟨g, c3, hv, hg1, hg2⟩ := own_someE hown (by omega)
        subst hv
        have z0 : wr.cell? ⟨g, q, none⟩ = some (.int .i64 z) := by
          rw [hown.cellAt q (by omega), hFP.out, ints_append, List.getElem?_append_right (by rw [ints_length]; omega), ints_length, ← hq, Nat.sub_self]
          rfl
        have m0 : wr.cell? ⟨g, q + 1, none⟩ = some (.int .i64 m) := by
          rw [hown.cellAt (q + 1) (by omega), hFP.out, ints_append, List.getElem?_append_right (by rw [ints_length]; omega), ints_length, ← hq, show q + 1 - q = 1 by omega]
          rfl
        have mf := hown.frozenAt (q + 1)
        have u1 : IntKind.i64.wrap ((N : Int) - 2) = (q : Int) := by rw [show (N : Int) - 2 = (q : Int) by omega]; simp (disch := omega) only [IntWalk.i64_in]
        have u2 : IntKind.i64.wrap ((N : Int) - 1) = ((q + 1 : Nat) : Int) := by rw [show (N : Int) - 1 = ((q + 1 : Nat) : Int) by omega]; simp (disch := omega) only [IntWalk.i64_in]
        have u3 : IntKind.i64.wrap (m + 1) = m + 1 := by simp (disch := omega) only [IntWalk.i64_in]
        have e1 : decide (0 < N) = true := decide_eq_true (by omega)
        have e2 : 0 < N := by omega
        have e3 : (q : Int) < (N : Int) := by omega
        have e4 : ((q + 1 : Nat) : Int) < (N : Int) := by omega
        have hNq' := hide hNq
        have hqh := hide hq
        clear hNq hq hk0 hF hSd
        go_upto_region 6 with fail
        have hSd : wr.drew.cell? ⟨g, q, none⟩ = some (.int .i64 z) ∧ wr.drew.cell? ⟨b, off + k, none⟩ = some (.int .i64 x) := ⟨z0, x0⟩
        refine wp_region_held (S := fun w' => w'.cell? ⟨g, q, none⟩ = some (.int .i64 z) ∧ w'.cell? ⟨b, off + k, none⟩ = some (.int .i64 x)) (by kernel_rfl) ?_
        change wpAnyH _ _ _ _ _ _ _ _ wr.drew
        refine wpAnyH_take (i := 0) (v := ?_) rfl (by kernel_rfl) (by kernel_rfl) (by kernel_rfl) (fun _ _ _ h => h) (Or.inl ⟨by kernel_rfl, ?_⟩) (by assumption) ?_
        rotate_left 1
        · (intro w hSw; obtain ⟨hk1, hk2⟩ := hSw; go_simp <;> with_reducible rfl)
        simp only [Act.put, List.getElem_toArray, List.getElem_cons_zero, List.setIfInBounds_toArray, List.set_cons_zero, List.set_cons_succ]
        refine wpAnyH_take (i := 1) (v := ?_) rfl (by kernel_rfl) (by kernel_rfl) (by kernel_rfl) (fun _ _ _ h => h) (Or.inl ⟨by kernel_rfl, ?_⟩) (by assumption) ?_
        rotate_left 1
        · (intro w hSw; obtain ⟨hk1, hk2⟩ := hSw; go_simp <;> with_reducible rfl)
        simp only [Act.put, List.getElem_toArray, List.getElem_cons_zero, List.getElem_cons_succ, List.setIfInBounds_toArray, List.set_cons_zero, List.set_cons_succ]
        refine wpAnyH_take (i := 2) (v := ?_) rfl (by kernel_rfl) (by kernel_rfl) (by kernel_rfl) (fun _ _ _ h => h) (Or.inl ⟨by kernel_rfl, ?_⟩) (by assumption) ?_
        rotate_left 1
        · (intro w hSw; obtain ⟨hk1, hk2⟩ := hSw; go_simp <;> with_reducible rfl)
        simp only [Act.put, List.getElem_toArray, List.getElem_cons_zero, List.getElem_cons_succ, List.setIfInBounds_toArray, List.set_cons_zero, List.set_cons_succ]
        refine wpAnyH_take (i := 3) (v := ?_) rfl (by kernel_rfl) (by kernel_rfl) (by kernel_rfl) (fun _ _ _ h => h) (Or.inl ⟨by kernel_rfl, ?_⟩) (by assumption) ?_
        rotate_left 1
        · (intro w hSw; obtain ⟨hk1, hk2⟩ := hSw; go_simp <;> with_reducible rfl)
        simp only [Act.put, List.getElem_toArray, List.getElem_cons_zero, List.getElem_cons_succ, List.setIfInBounds_toArray, List.set_cons_zero, List.set_cons_succ]
        refine wpAnyH_take (i := 4) (v := ?_) rfl (by kernel_rfl) (by kernel_rfl) (by kernel_rfl) (fun _ _ _ h => h) (Or.inl ⟨by kernel_rfl, ?_⟩) (by assumption) ?_
        rotate_left 1
        · (intro w hSw; obtain ⟨hk1, hk2⟩ := hSw; go_simp <;> with_reducible rfl)
        simp only [Act.put, List.getElem_toArray, List.getElem_cons_zero, List.getElem_cons_succ, List.setIfInBounds_toArray, List.set_cons_zero, List.set_cons_succ]
        refine wpAnyH_take (i := 5) (v := ?_) rfl (by kernel_rfl) (by kernel_rfl) (by kernel_rfl) (fun _ _ _ h => h) (Or.inl ⟨by kernel_rfl, ?_⟩) (by assumption) ?_
        rotate_left 1
        · (intro w hSw; obtain ⟨hk1, hk2⟩ := hSw; go_simp <;> with_reducible rfl)
        simp only [Act.put, List.getElem_toArray, List.getElem_cons_zero, List.getElem_cons_succ, List.setIfInBounds_toArray, List.set_cons_zero, List.set_cons_succ]
        refine wpAnyH_take (i := 6) (v := ?_) rfl (by kernel_rfl) (by kernel_rfl) (by kernel_rfl) (fun _ _ _ h => h) (Or.inl ⟨by kernel_rfl, ?_⟩) (by assumption) ?_
        rotate_left 1
        · (intro w hSw; obtain ⟨hk1, hk2⟩ := hSw; go_simp <;> with_reducible rfl)
        simp only [Act.put, List.getElem_toArray, List.getElem_cons_zero, List.getElem_cons_succ, List.setIfInBounds_toArray, List.set_cons_zero, List.set_cons_succ]
        refine wpAnyH_take (i := 7) (v := ?_) rfl (by kernel_rfl) (by kernel_rfl) (by kernel_rfl) (fun _ _ _ h => h) (Or.inl ⟨by kernel_rfl, ?_⟩) (by assumption) ?_
        rotate_left 1
        · (intro w hSw; obtain ⟨hk1, hk2⟩ := hSw; go_simp <;> with_reducible rfl)
        simp only [Act.put, List.getElem_toArray, List.getElem_cons_zero, List.getElem_cons_succ, List.setIfInBounds_toArray, List.set_cons_zero, List.set_cons_succ]
        refine wpAnyH_take (i := 8) (v := ?_) rfl (by kernel_rfl) (by kernel_rfl) (by kernel_rfl) (fun _ _ _ h => h) (Or.inl ⟨by kernel_rfl, ?_⟩) (by assumption) ?_
        rotate_left 1
        · (intro w hSw; obtain ⟨hk1, hk2⟩ := hSw; go_simp <;> with_reducible rfl)
        simp only [Act.put, List.getElem_toArray, List.getElem_cons_zero, List.getElem_cons_succ, List.setIfInBounds_toArray, List.set_cons_zero, List.set_cons_succ]
        refine wpAnyH_take (i := 9) (v := ?_) rfl (by kernel_rfl) (by kernel_rfl) (by kernel_rfl) (fun _ _ _ h => h) (Or.inl ⟨by kernel_rfl, ?_⟩) (by assumption) ?_
        rotate_left 1
        · (intro w hSw; obtain ⟨hk1, hk2⟩ := hSw; go_simp <;> with_reducible rfl)
        simp only [Act.put, List.getElem_toArray, List.getElem_cons_zero, List.getElem_cons_succ, List.setIfInBounds_toArray, List.set_cons_zero, List.set_cons_succ]
        refine wpAnyH_take (i := 10) (v := ?_) rfl (by kernel_rfl) (by kernel_rfl) (by kernel_rfl) (fun _ _ _ h => h) (Or.inl ⟨by kernel_rfl, ?_⟩) (by assumption) ?_
        rotate_left 1
        · (intro w hSw; obtain ⟨hk1, hk2⟩ := hSw; go_simp <;> with_reducible rfl)
        simp only [Act.put, List.getElem_toArray, List.getElem_cons_zero, List.getElem_cons_succ, List.setIfInBounds_toArray, List.set_cons_zero, List.set_cons_succ]
        refine wpAnyH_take (i := 11) (v := ?_) rfl (by kernel_rfl) (by kernel_rfl) (by kernel_rfl) (fun _ _ _ h => h) (Or.inl ⟨by kernel_rfl, ?_⟩) (by assumption) ?_
        rotate_left 1
        · (intro w hSw; obtain ⟨hk1, hk2⟩ := hSw; go_simp <;> with_reducible rfl)
        simp only [Act.put, List.getElem_toArray, List.getElem_cons_zero, List.getElem_cons_succ, List.setIfInBounds_toArray, List.set_cons_zero, List.set_cons_succ]
        refine wpAnyH_take (i := 12) (v := ?_) rfl (by kernel_rfl) (by kernel_rfl) (by kernel_rfl) (fun _ _ _ h => h) (Or.inl ⟨by kernel_rfl, ?_⟩) (by assumption) ?_
        rotate_left 1
        · (intro w hSw; obtain ⟨hk1, hk2⟩ := hSw; go_simp <;> with_reducible rfl)
        simp only [Act.put, List.getElem_toArray, List.getElem_cons_zero, List.getElem_cons_succ, List.setIfInBounds_toArray, List.set_cons_zero, List.set_cons_succ]
        refine wpAnyH_take (i := 13) (v := ?_) rfl (by kernel_rfl) (by kernel_rfl) (by kernel_rfl) (fun _ _ _ h => h) (Or.inl ⟨by kernel_rfl, ?_⟩) (by assumption) ?_
        rotate_left 1
        · (intro w hSw; obtain ⟨hk1, hk2⟩ := hSw; go_simp <;> with_reducible rfl)
        simp only [Act.put, List.getElem_toArray, List.getElem_cons_zero, List.getElem_cons_succ, List.setIfInBounds_toArray, List.set_cons_zero, List.set_cons_succ]
        refine wpAnyH_done (by kernel_rfl) ?_ _
        by_cases hxz : x = z
        · have e5 : (z == x) = true := by simpa using hxz.symm
          rw [if_pos hxz] at hsn
          have mfd : wr.drew.frozen? ⟨g, q + 1, none⟩ = false := mf
          have m0d : wr.drew.cell? ⟨g, q + 1, none⟩ = some (.int .i64 m) := m0
          have gz : g < wr.drew.heap.size := hg2
          have hst := ((ownsRow_bel hown (Below.refl _ _).drew).stored (q + 1) (.int .i64 (m + 1))).1
          have HX : Hid (flat (runsL (l.take (k + 1))) = flat P ++ [z, m + 1]) := by show _ = _; rw [HT.out, hsn, flat_append]; rfl
          have HS : Hid ((ints F).set (q + 1) (.int .i64 (m + 1)) = ints (flat P ++ [z, m + 1])) := by
            show _ = _
            rw [hFP.out, ints_append, ints_append, List.set_append_right _ _ (by rw [ints_length]; have := hqh.out; omega), ints_length, ← hqh.out, show q + 1 - q = 1 by omega]
            rfl
          clear hxz hsn
          go_wp2
          go_roundw
          case rel => exact ⟨k + 1, N, flat P ++ [z, m + 1], by omega, by go_num, (hbr.drew).setCell hg1 _, HX.out.symm, by (show _ = _); rw [List.length_append, ← hqh.out, hNq'.out]; rfl, hN2, by rw [← HS.out]; exact hst⟩
          case measure => simp [intOf]; omega
        · have e5 : (z == x) = false := by simpa using fun h : z = x => hxz h.symm
          rw [if_neg hxz] at hsn
          have HX : Hid (flat (runsL (l.take (k + 1))) = F ++ [x, 1]) := by
            show _ = _
            rw [HT.out, hsn, hFP.out, show P ++ [(z, m), (x, 1)] = (P ++ [(z, m)]) ++ [(x, 1)] by simp, flat_append, flat_append]
            rfl
          clear hxz hsn
          go_wp2_with (at_builtin; refine wpList_append_own _ rfl _ _ 47 rfl w.heap.size 3 i0 _ 1 8 Try.underlying47 hi iz0 iz1 iz2 rfl (by decide) _ _ _ rfl ((ownsRow_bel hown (Below.refl _ _).drew).alloc _) ⟨wr.heap.size, 0, none⟩ 2 2 [.int .i64 x, .int .i64 1] rfl rfl (World.news_of_block (heap_alloc_new wr.drew _)) (by simp [Value.oneCell']) (by unfold maxLen; omega) (by omega) (by simp; omega) ?_; intro v' w8 hown8 hg8 _)
          have hb8 : Below w.heap.size w w8 := (bel_alloc hbr.drew hsz _).grown hg8 (by simp; omega) (fun j hj => by have := (hown.lt j hj).1; omega)
          go_roundw
          case rel => exact ⟨k + 1, N + 2, F ++ [x, 1], by omega, by go_num, hb8, HX.out.symm, by (show _ = _); rw [List.length_append, hN.out]; rfl, by have := hlenR.out; omega, by rw [ints_append]; exact hown8⟩
          case measure => simp [intOf]; omega
    · obtain rfl : k = l.length := by omega
      obtain ⟨A', c', rfl⟩ := ownsRow_slice hown
      have hrw := RdT.of_own hown
      have hFl := hF.out
      rw [List.take_of_length_le (Nat.le_refl _)] at hFl
      subst hFl
      have hNN := hN.out
      subst hNN
      go_wp2
      go_ret
      exact ⟨⟨A', ⟨c', rfl⟩, hrw⟩, hbr⟩
end Go.Proofs.Ytmdmkmfemhkfgaa

/- Contracts: the reference's packed series. -/
set_option linter.unusedSimpArgs false
set_option linter.unusedVariables false
namespace Go.Proofs.Ytmdmkmfemhkfgaa
open Go.RowKit
set_option maxRecDepth 100000

set_option maxHeartbeats 4000000 in
theorem refPacked_c (l : List Int) (A : Option Addr) (c : Nat) (w : World) (hr : Rd w A (ints l)) (hl : l.length ≤ 1000) (hwi : Within 1000000000 l) :
    Calls Try.prog 35 #[.slice A l.length c] w fun r w' => (∃ A' c', r = .returned (.agg #[.int .i64 (packR l).1, .slice A' (packR l).2.length c']) ∧ Rd w' A' (ints (packR l).2)) ∧ Below w.heap.size w w' := by
  have HCI := hide (fun W (h : Rd W A (ints l)) => copyInts_c l A c W h (by omega))
  have HDI := hide (fun W (h : Rd W A (ints l)) => refDifferences_c l A c W h hl hwi)
  have HR1 := hide (fun A1 c1 W (h : Rd W A1 (ints (diffs 0 l))) => refRuns_c (diffs 0 l) A1 c1 W h (by rw [diffs_length]; exact hl))
  rw [diffs_length] at HR1
  have HR2 := hide (fun W (h : Rd W A (ints l)) => refRuns_c l A c W h hl)
  have HR : Hid (packR l = (let x : Int × List Int := if (flat (runsL (diffs 0 l))).length < l.length then (1, flat (runsL (diffs 0 l))) else (0, l); if (flat (runsL l)).length < x.2.length then (2, flat (runsL l)) else x)) := rfl
  generalize packR l = R at HR ⊢
  generalize flat (runsL l) = F2 at HR2 HR
  generalize flat (runsL (diffs 0 l)) = F1 at HR1 HR
  generalize diffs 0 l = D at HDI HR1
  obtain ⟨p, hp⟩ : ∃ p, w.heap.size = p := ⟨_, rfl⟩
  obtain ⟨w1, hw1⟩ : ∃ w1, w.alloc (.cells #[.int .i64 0, .slice none 0 0] 54) = w1 := ⟨_, rfl⟩
  have hX1 : Blk w1 p 54 [.int .i64 0, .slice none 0 0] := by rw [← hw1, ← hp]; exact Blk.new w _ [_, _]
  have hB1 : Below p w w1 := by rw [← hw1, ← hp]; exact alloc_bel _ _
  have hr1 := hr.bel (by rw [hp]; exact hB1)
  have hp1 := hX1.lt
  have HW := hide hw1
  clear hw1 hwi
  go_enter Try.func35, Try.ntmps35
  go_upto_region 1 with fail
  try rw [hp]
  rw [HW.out]
  go_upto_region 2 with (first | (go_at_call 28; refine (HCI.out _ hr1).mono ?_; rintro e_ w2 ⟨⟨A2, c2, rfl, ra2⟩, hb2⟩))
  obtain ⟨q, hq⟩ : ∃ q, w2.heap.size = q := ⟨_, rfl⟩
  obtain ⟨w3, hw3⟩ : ∃ w3, w2.alloc (.cells #[.int .i64 0, .slice A2 l.length c2] 54) = w3 := ⟨_, rfl⟩
  have hQ3 : Blk w3 q 54 [.int .i64 0, .slice A2 l.length c2] := by rw [← hw3, ← hq]; exact Blk.new w2 _ [_, _]
  have hb3 : Below w2.heap.size w2 w3 := by rw [← hw3]; exact alloc_bel _ _
  have hpq : p < q := by rw [← hq]; have := hb2.size; omega
  have hX3 := (hX1.bel hb2).bel hb3
  have hr3 := (hr1.bel hb2).bel hb3
  have ra3 := ra2.bel hb3
  have hB2 : Below p w w2 := bel_tr hB1 (by omega) hb2
  have hB3 : Below p w w3 := bel_tr hB2 (by omega) hb3
  try rw [hq]
  rw [hw3]
  clear hw3 hb2 hb3 hX1 hr1 ra2 hB1 hB2 HW hq hp1
  have hz3 := hX3.lt
  go_upto_region 3 with (first
    | (go_at_call 68; refine (HDI.out _ hr3).mono ?_; rintro e_ w4 ⟨⟨A4, c4, rfl, ra4⟩, hb4⟩)
    | (go_at_call 67; refine (HR1.out _ _ _ ra4).mono ?_; rintro e_ w5 ⟨⟨A5, c5, rfl, ra5⟩, hb5⟩))
  have hX5 := (hX3.bel hb4).bel hb5
  have hQ5 := (hQ3.bel hb4).bel hb5
  have hr5 := (hr3.bel hb4).bel hb5
  have raC := (ra3.bel hb4).bel hb5
  have hB4 : Below p w w4 := bel_tr hB3 (by omega) hb4
  have hB5 : Below p w w5 := bel_tr hB4 (by have := hb4.size; omega) hb5
  clear hX3 hQ3 hr3 ra3 hb4 hb5 hB3 hB4 ra4
  have hz5 := hX5.lt
  have hq5 := hQ5.lt
  have f0 := hQ5.frozen 0
  have f1 := hQ5.frozen 1
  have q0 := hQ5.cell 0; have q1 := hQ5.cell 1; simp only [List.getElem?_cons_zero, List.getElem?_cons_succ] at q0 q1
  obtain ⟨n0, hn0⟩ : ∃ n0, Hid (l.length = n0) := ⟨_, rfl⟩
  obtain ⟨n1, hn1⟩ : ∃ n1, Hid (F1.length = n1) := ⟨_, rfl⟩
  obtain ⟨n2, hn2⟩ : ∃ n2, Hid (F2.length = n2) := ⟨_, rfl⟩
  have HRn : Hid (∀ (h1 : Prop) (h2 : Prop), True) := fun _ _ => trivial
  rw [hn0.out] at q1 hQ5
  rw [hn0.out, hn1.out]
  rw [hn0.out, hn2.out] at HR2
  by_cases h1 : n1 < n0
  · have s0 : decide ((n1 : Int) < (n0 : Int)) = true := decide_eq_true (by omega)
    have s1 : (n1 : Int) < (n0 : Int) := by omega
    have s2 : decide (n1 < n0) = true := decide_eq_true h1
    have h1' := hide h1
    clear h1
    go_upto_region 5 with fail
    obtain ⟨w7, hw7⟩ : ∃ w7, (w5.setCell ⟨q, 0, none⟩ (.int .i64 1)).setCell ⟨q, 1, none⟩ (.slice A5 n1 c5) = w7 := ⟨_, rfl⟩
    have hQ7 : Blk w7 q 54 [.int .i64 1, .slice A5 n1 c5] := by rw [← hw7]; exact (hQ5.set_ 0 _).set_ 1 _
    have hX7 : Blk w7 p 54 [.int .i64 0, .slice none 0 0] := by rw [← hw7]; exact (hX5.far (p := ⟨q, 0, none⟩) (by show p ≠ q; omega) _).far (p := ⟨q, 1, none⟩) (by show p ≠ q; omega) _
    have ra7 : RdT w7 3 A5 (ints F1) := by rw [← hw7]; exact (ra5.set hQ5 (by decide) 0 _).set (hQ5.set_ 0 _) (by decide) 1 _
    have hr7 : Rd w7 A (ints l) := by rw [← hw7]; exact hr.bel (by rw [hp]; exact (hB5.setCell (by show p ≤ q; omega) _).setCell (by show p ≤ q; omega) _)
    have hB7 : Below p w w7 := by rw [← hw7]; exact (hB5.setCell (by show p ≤ q; omega) _).setCell (by show p ≤ q; omega) _
    rw [hw7]
    clear hw7 q0 q1
    have q0 := hQ7.cell 0; have q1 := hQ7.cell 1; simp only [List.getElem?_cons_zero, List.getElem?_cons_succ] at q0 q1
    go_upto_region 6 with (first | (go_at_call 67; refine (HR2.out _ hr7).mono ?_; rintro e_ w6 ⟨⟨A6, c6, rfl, ra6⟩, hb6⟩))
    have hX6 := hX7.bel hb6
    have hQ6 := hQ7.bel hb6
    have raD := ra7.bel hb6
    have hB6 : Below p w w6 := bel_tr hB7 (by have := hX7.lt; omega) hb6
    have hq6 := hQ6.lt
    have k0 := hQ6.frozen 0
    have k1 := hQ6.frozen 1
    clear q0 q1
    have y0 := hQ6.cell 0; have y1 := hQ6.cell 1; simp only [List.getElem?_cons_zero, List.getElem?_cons_succ] at y0 y1
    by_cases h2 : n2 < n1
    · have t0 : decide ((n2 : Int) < (n1 : Int)) = true := decide_eq_true (by omega)
      have t1 : (n2 : Int) < (n1 : Int) := by omega
      have t2 : decide (n2 < n1) = true := decide_eq_true h2
      have hR : Hid (R = (2, F2)) := by have := HR.out; simp only [hn0.out, hn1.out, h1'.out, if_true, hn2.out, h2, if_true] at this; exact this
      clear h2
      go_upto_region 8 with fail
      obtain ⟨w7, hw7⟩ : ∃ w7, (w6.setCell ⟨q, 0, none⟩ (.int .i64 2)).setCell ⟨q, 1, none⟩ (.slice A6 n2 c6) = w7 := ⟨_, rfl⟩
      have hQ7 : Blk w7 q 54 [.int .i64 2, .slice A6 n2 c6] := by rw [← hw7]; exact (hQ6.set_ 0 _).set_ 1 _
      have hX7 : Blk w7 p 54 [.int .i64 0, .slice none 0 0] := by rw [← hw7]; exact (hX6.far (p := ⟨q, 0, none⟩) (by show p ≠ q; omega) _).far (p := ⟨q, 1, none⟩) (by show p ≠ q; omega) _
      have ra7 : RdT w7 3 A6 (ints F2) := by rw [← hw7]; exact (ra6.set hQ6 (by decide) 0 _).set (hQ6.set_ 0 _) (by decide) 1 _
      have hB7 : Below p w w7 := by rw [← hw7]; exact (hB6.setCell (by show p ≤ q; omega) _).setCell (by show p ≤ q; omega) _
      rw [hw7]
      clear hw7 y0 y1 k0 k1
      have q0 := hQ7.cell 0; have q1 := hQ7.cell 1; simp only [List.getElem?_cons_zero, List.getElem?_cons_succ] at q0 q1
      have z1 := hX7.lt
      have g0 := hX7.frozen 0
      have g1 := hX7.frozen 1
      have x0 := hX7.cell 0; have x1 := hX7.cell 1; simp only [List.getElem?_cons_zero, List.getElem?_cons_succ] at x0 x1
      go_wp2
      obtain ⟨WE, hWE⟩ : ∃ WE, (w7.setCell ⟨p, 0, none⟩ (.int .i64 2)).setCell ⟨p, 1, none⟩ (.slice A6 n2 c6) = WE := ⟨_, rfl⟩
      have hXE : Blk WE p 54 [.int .i64 2, .slice A6 n2 c6] := by rw [← hWE]; exact (hX7.set_ 0 _).set_ 1 _
      have raE : RdT WE 3 A6 (ints R.2) := by rw [hR.out, ← hWE]; exact (ra7.set hX7 (by decide) 0 _).set (hX7.set_ 0 _) (by decide) 1 _
      have hBE : Below p w WE := by rw [← hWE]; exact (hB7.setCell (by show p ≤ p; omega) _).setCell (by show p ≤ p; omega) _
      rw [hWE]
      clear hWE x0 x1
      have v0 := hXE.cell 0; have v1 := hXE.cell 1; simp only [List.getElem?_cons_zero, List.getElem?_cons_succ] at v0 v1
      have hEq : Hid (Ending.returned (Value.agg #[.int .i64 2, .slice A6 n2 c6]) = Ending.returned (Value.agg #[.int .i64 R.1, .slice A6 R.2.length c6])) := by show _ = _; rw [hR.out]; first | rfl | (simp only [hn0.out, hn1.out, hn2.out])
      exact bodyPost_ret (v := .agg #[.int .i64 2, .slice A6 n2 c6]) (by simp [results, Try.results35, go_sem, v0, v1]; try rfl) rfl ⟨by first | exact ⟨A6, c6, hEq.out, raE.1⟩ | exact ⟨A6, ⟨c6, hEq.out⟩, raE.1⟩, by first | exact hBE | (rw [hp]; exact hBE)⟩
    · have t0 : decide ((n2 : Int) < (n1 : Int)) = false := decide_eq_false (by omega)
      have t1 : ¬ (n2 : Int) < (n1 : Int) := by omega
      have t2 : decide (n2 < n1) = false := decide_eq_false h2
      have hR : Hid (R = (1, F1)) := by have := HR.out; simp only [hn0.out, hn1.out, h1'.out, if_true, hn2.out, h2, if_false] at this; exact this
      clear h2
      have z1 := hX6.lt
      have g0 := hX6.frozen 0
      have g1 := hX6.frozen 1
      have x0 := hX6.cell 0; have x1 := hX6.cell 1; simp only [List.getElem?_cons_zero, List.getElem?_cons_succ] at x0 x1
      go_wp2
      obtain ⟨WE, hWE⟩ : ∃ WE, (w6.setCell ⟨p, 0, none⟩ (.int .i64 1)).setCell ⟨p, 1, none⟩ (.slice A5 n1 c5) = WE := ⟨_, rfl⟩
      have hXE : Blk WE p 54 [.int .i64 1, .slice A5 n1 c5] := by rw [← hWE]; exact (hX6.set_ 0 _).set_ 1 _
      have raE : RdT WE 3 A5 (ints R.2) := by rw [hR.out, ← hWE]; exact (raD.set hX6 (by decide) 0 _).set (hX6.set_ 0 _) (by decide) 1 _
      have hBE : Below p w WE := by rw [← hWE]; exact (hB6.setCell (by show p ≤ p; omega) _).setCell (by show p ≤ p; omega) _
      rw [hWE]
      clear hWE x0 x1
      have v0 := hXE.cell 0; have v1 := hXE.cell 1; simp only [List.getElem?_cons_zero, List.getElem?_cons_succ] at v0 v1
      have hEq : Hid (Ending.returned (Value.agg #[.int .i64 1, .slice A5 n1 c5]) = Ending.returned (Value.agg #[.int .i64 R.1, .slice A5 R.2.length c5])) := by show _ = _; rw [hR.out]; first | rfl | (simp only [hn0.out, hn1.out, hn2.out])
      exact bodyPost_ret (v := .agg #[.int .i64 1, .slice A5 n1 c5]) (by simp [results, Try.results35, go_sem, v0, v1]; try rfl) rfl ⟨by first | exact ⟨A5, c5, hEq.out, raE.1⟩ | exact ⟨A5, ⟨c5, hEq.out⟩, raE.1⟩, by first | exact hBE | (rw [hp]; exact hBE)⟩
  · have s0 : decide ((n1 : Int) < (n0 : Int)) = false := decide_eq_false (by omega)
    have s1 : ¬ (n1 : Int) < (n0 : Int) := by omega
    have s2 : decide (n1 < n0) = false := decide_eq_false h1
    have h1' := hide h1
    clear h1
    go_upto_region 6 with (first | (go_at_call 67; refine (HR2.out _ hr5).mono ?_; rintro e_ w6 ⟨⟨A6, c6, rfl, ra6⟩, hb6⟩))
    have hX6 := hX5.bel hb6
    have hQ6 := hQ5.bel hb6
    have raD := raC.bel hb6
    have hB6 : Below p w w6 := bel_tr hB5 (by have := hX5.lt; omega) hb6
    have hq6 := hQ6.lt
    have k0 := hQ6.frozen 0
    have k1 := hQ6.frozen 1
    clear q0 q1
    have y0 := hQ6.cell 0; have y1 := hQ6.cell 1; simp only [List.getElem?_cons_zero, List.getElem?_cons_succ] at y0 y1
    by_cases h2 : n2 < n0
    · have t0 : decide ((n2 : Int) < (n0 : Int)) = true := decide_eq_true (by omega)
      have t1 : (n2 : Int) < (n0 : Int) := by omega
      have t2 : decide (n2 < n0) = true := decide_eq_true h2
      have hR : Hid (R = (2, F2)) := by have := HR.out; simp only [hn0.out, hn1.out, h1'.out, if_false, hn2.out, h2, if_true] at this; exact this
      clear h2
      go_upto_region 8 with fail
      obtain ⟨w7, hw7⟩ : ∃ w7, (w6.setCell ⟨q, 0, none⟩ (.int .i64 2)).setCell ⟨q, 1, none⟩ (.slice A6 n2 c6) = w7 := ⟨_, rfl⟩
      have hQ7 : Blk w7 q 54 [.int .i64 2, .slice A6 n2 c6] := by rw [← hw7]; exact (hQ6.set_ 0 _).set_ 1 _
      have hX7 : Blk w7 p 54 [.int .i64 0, .slice none 0 0] := by rw [← hw7]; exact (hX6.far (p := ⟨q, 0, none⟩) (by show p ≠ q; omega) _).far (p := ⟨q, 1, none⟩) (by show p ≠ q; omega) _
      have ra7 : RdT w7 3 A6 (ints F2) := by rw [← hw7]; exact (ra6.set hQ6 (by decide) 0 _).set (hQ6.set_ 0 _) (by decide) 1 _
      have hB7 : Below p w w7 := by rw [← hw7]; exact (hB6.setCell (by show p ≤ q; omega) _).setCell (by show p ≤ q; omega) _
      rw [hw7]
      clear hw7 y0 y1 k0 k1
      have q0 := hQ7.cell 0; have q1 := hQ7.cell 1; simp only [List.getElem?_cons_zero, List.getElem?_cons_succ] at q0 q1
      have z1 := hX7.lt
      have g0 := hX7.frozen 0
      have g1 := hX7.frozen 1
      have x0 := hX7.cell 0; have x1 := hX7.cell 1; simp only [List.getElem?_cons_zero, List.getElem?_cons_succ] at x0 x1
      go_wp2
      obtain ⟨WE, hWE⟩ : ∃ WE, (w7.setCell ⟨p, 0, none⟩ (.int .i64 2)).setCell ⟨p, 1, none⟩ (.slice A6 n2 c6) = WE := ⟨_, rfl⟩
      have hXE : Blk WE p 54 [.int .i64 2, .slice A6 n2 c6] := by rw [← hWE]; exact (hX7.set_ 0 _).set_ 1 _
      have raE : RdT WE 3 A6 (ints R.2) := by rw [hR.out, ← hWE]; exact (ra7.set hX7 (by decide) 0 _).set (hX7.set_ 0 _) (by decide) 1 _
      have hBE : Below p w WE := by rw [← hWE]; exact (hB7.setCell (by show p ≤ p; omega) _).setCell (by show p ≤ p; omega) _
      rw [hWE]
      clear hWE x0 x1
      have v0 := hXE.cell 0; have v1 := hXE.cell 1; simp only [List.getElem?_cons_zero, List.getElem?_cons_succ] at v0 v1
      have hEq : Hid (Ending.returned (Value.agg #[.int .i64 2, .slice A6 n2 c6]) = Ending.returned (Value.agg #[.int .i64 R.1, .slice A6 R.2.length c6])) := by show _ = _; rw [hR.out]; first | rfl | (simp only [hn0.out, hn1.out, hn2.out])
      exact bodyPost_ret (v := .agg #[.int .i64 2, .slice A6 n2 c6]) (by simp [results, Try.results35, go_sem, v0, v1]; try rfl) rfl ⟨by first | exact ⟨A6, c6, hEq.out, raE.1⟩ | exact ⟨A6, ⟨c6, hEq.out⟩, raE.1⟩, by first | exact hBE | (rw [hp]; exact hBE)⟩
    · have t0 : decide ((n2 : Int) < (n0 : Int)) = false := decide_eq_false (by omega)
      have t1 : ¬ (n2 : Int) < (n0 : Int) := by omega
      have t2 : decide (n2 < n0) = false := decide_eq_false h2
      have hR : Hid (R = (0, l)) := by have := HR.out; simp only [hn0.out, hn1.out, h1'.out, if_false, hn2.out, h2, if_false] at this; exact this
      clear h2
      have z1 := hX6.lt
      have g0 := hX6.frozen 0
      have g1 := hX6.frozen 1
      have x0 := hX6.cell 0; have x1 := hX6.cell 1; simp only [List.getElem?_cons_zero, List.getElem?_cons_succ] at x0 x1
      go_wp2
      obtain ⟨WE, hWE⟩ : ∃ WE, (w6.setCell ⟨p, 0, none⟩ (.int .i64 0)).setCell ⟨p, 1, none⟩ (.slice A2 n0 c2) = WE := ⟨_, rfl⟩
      have hXE : Blk WE p 54 [.int .i64 0, .slice A2 n0 c2] := by rw [← hWE]; exact (hX6.set_ 0 _).set_ 1 _
      have raE : RdT WE 3 A2 (ints R.2) := by rw [hR.out, ← hWE]; exact (raD.set hX6 (by decide) 0 _).set (hX6.set_ 0 _) (by decide) 1 _
      have hBE : Below p w WE := by rw [← hWE]; exact (hB6.setCell (by show p ≤ p; omega) _).setCell (by show p ≤ p; omega) _
      rw [hWE]
      clear hWE x0 x1
      have v0 := hXE.cell 0; have v1 := hXE.cell 1; simp only [List.getElem?_cons_zero, List.getElem?_cons_succ] at v0 v1
      have hEq : Hid (Ending.returned (Value.agg #[.int .i64 0, .slice A2 n0 c2]) = Ending.returned (Value.agg #[.int .i64 R.1, .slice A2 R.2.length c2])) := by show _ = _; rw [hR.out]; first | rfl | (simp only [hn0.out, hn1.out, hn2.out])
      exact bodyPost_ret (v := .agg #[.int .i64 0, .slice A2 n0 c2]) (by simp [results, Try.results35, go_sem, v0, v1]; try rfl) rfl ⟨by first | exact ⟨A2, c2, hEq.out, raE.1⟩ | exact ⟨A2, ⟨c2, hEq.out⟩, raE.1⟩, by first | exact hBE | (rw [hp]; exact hBE)⟩
end Go.Proofs.Ytmdmkmfemhkfgaa

