/- The law of contradictions. -/
import Derived.Test.YtmdmkmfemhkfgaaE17
import Derived.Test.YtmdmkmfemhkfgaaE19
set_option linter.unusedSimpArgs false
set_option linter.unusedVariables false
set_option linter.unusedSimpArgs false
set_option linter.unusedVariables false
namespace Go.Proofs.Ytmdmkmfemhkfgaa
open Go.RowKit
set_option maxRecDepth 100000

theorem exists_least {P : Nat → Prop} (h : ∃ n, P n) : ∃ n, P n ∧ ∀ m, m < n → ¬ P m := by
  obtain ⟨n, hn⟩ := h
  induction n using Nat.strongRecOn with
  | _ n ih =>
    by_cases e : ∃ m, m < n ∧ P m
    · obtain ⟨m, h1, h2⟩ := e
      exact ih m h1 h2
    · exact ⟨n, hn, fun m h1 h2 => e ⟨m, h1, h2⟩⟩
theorem First.ex (L : List G) : ∃ r, First L r := by
  by_cases h : ∃ i, ∃ j, i < j ∧ j < L.length ∧ clashAt L i j = true
  · obtain ⟨i, hi, hmin⟩ := exists_least h
    obtain ⟨j, ⟨h1, h2, h3⟩, hmin2⟩ := exists_least hi
    refine ⟨some (i, j), h1, h2, h3, fun i' hi' j' h4 h5 => ?_, fun j' h4 h5 => ?_⟩
    · cases hc : clashAt L i' j'
      · rfl
      · exact absurd ⟨j', h4, h5, hc⟩ (hmin i' hi')
    · cases hc : clashAt L i j'
      · rfl
      · exact absurd ⟨h4, by omega, hc⟩ (hmin2 j' h5)
  · refine ⟨none, fun i _ j h4 h5 => ?_⟩
    cases hc : clashAt L i j
    · rfl
    · exact absurd ⟨i, j, h4, h5, hc⟩ h
theorem foldl_lo (L : List G) (a : G) : (∀ g, g = a ∨ g ∈ L → g.1 ≤ (L.foldl comR a).1) ∧ ∃ g, (g = a ∨ g ∈ L) ∧ g.1 = (L.foldl comR a).1 := by
  induction L generalizing a with
  | nil =>
    refine ⟨fun g h => ?_, a, .inl rfl, rfl⟩
    rcases h with rfl | h
    · exact Int.le_refl _
    · cases h
  | cons x L ih =>
    obtain ⟨h1, g, h2, h3⟩ := ih (comR a x)
    have hm := h1 (comR a x) (.inl rfl)
    have e : (comR a x).1 = max a.1 x.1 := rfl
    rw [List.foldl_cons]
    refine ⟨fun y hy => ?_, ?_⟩
    · rcases hy with rfl | hy
      · omega
      · rcases List.mem_cons.1 hy with rfl | hy
        · omega
        · exact h1 y (.inr hy)
    · rcases h2 with rfl | h2
      · by_cases hc : a.1 ≤ x.1
        · exact ⟨x, .inr (by simp), by rw [← h3]; omega⟩
        · exact ⟨a, .inl rfl, by rw [← h3]; omega⟩
      · exact ⟨g, .inr (by simp [h2]), h3⟩
theorem foldl_hi (L : List G) (a : G) : (∀ g, g = a ∨ g ∈ L → (L.foldl comR a).2 ≤ g.2) ∧ ∃ g, (g = a ∨ g ∈ L) ∧ g.2 = (L.foldl comR a).2 := by
  induction L generalizing a with
  | nil =>
    refine ⟨fun g h => ?_, a, .inl rfl, rfl⟩
    rcases h with rfl | h
    · exact Int.le_refl _
    · cases h
  | cons x L ih =>
    obtain ⟨h1, g, h2, h3⟩ := ih (comR a x)
    have hm := h1 (comR a x) (.inl rfl)
    have e : (comR a x).2 = min a.2 x.2 := rfl
    rw [List.foldl_cons]
    refine ⟨fun y hy => ?_, ?_⟩
    · rcases hy with rfl | hy
      · omega
      · rcases List.mem_cons.1 hy with rfl | hy
        · omega
        · exact h1 y (.inr hy)
    · rcases h2 with rfl | h2
      · by_cases hc : x.2 ≤ a.2
        · exact ⟨x, .inr (by simp), by rw [← h3]; omega⟩
        · exact ⟨a, .inl rfl, by rw [← h3]; omega⟩
      · exact ⟨g, .inr (by simp [h2]), h3⟩
theorem comA_lo {L : List G} (hL : L ≠ []) : (∀ g ∈ L, g.1 ≤ (comA L).1) ∧ ∃ g ∈ L, g.1 = (comA L).1 := by
  cases L with
  | nil => exact absurd rfl hL
  | cons a L =>
    rw [comA_cons]
    obtain ⟨h1, g, h2, h3⟩ := foldl_lo L a
    refine ⟨fun y hy => h1 y (by simpa using hy), g, by simpa using h2, h3⟩
theorem comA_hi {L : List G} (hL : L ≠ []) : (∀ g ∈ L, (comA L).2 ≤ g.2) ∧ ∃ g ∈ L, g.2 = (comA L).2 := by
  cases L with
  | nil => exact absurd rfl hL
  | cons a L =>
    rw [comA_cons]
    obtain ⟨h1, g, h2, h3⟩ := foldl_hi L a
    refine ⟨fun y hy => h1 y (by simpa using hy), g, by simpa using h2, h3⟩
/-- Ranges have nothing in common exactly if two of them have not. -/
theorem clash_some {L : List G} {i j : Nat} (h : First L (some (i, j))) : (comA L).2 < (comA L).1 := by
  obtain ⟨h1, h2, h3, _⟩ := h
  have hne : L ≠ [] := by rintro rfl; simp at h2
  unfold clashAt clash at h3
  rw [getD_at' (by omega : i < L.length), getD_at' h2] at h3
  have h4 := of_decide_eq_true h3
  have a1 := (comA_lo hne).1 L[i] (List.getElem_mem _)
  have a2 := (comA_lo hne).1 L[j] (List.getElem_mem _)
  have b1 := (comA_hi hne).1 L[i] (List.getElem_mem _)
  have b2 := (comA_hi hne).1 L[j] (List.getElem_mem _)
  have e1 : (comR L[i] L[j]).1 = max L[i].1 L[j].1 := rfl
  have e2 : (comR L[i] L[j]).2 = min L[i].2 L[j].2 := rfl
  omega
theorem clash_none {L : List G} (h : First L none) (hL : L ≠ []) (hne : ∀ g ∈ L, g.1 ≤ g.2) : ¬ (comA L).2 < (comA L).1 := by
  intro hlt
  obtain ⟨_, g, hg, e1⟩ := comA_lo hL
  obtain ⟨_, k, hk, e2⟩ := comA_hi hL
  obtain ⟨i, hi, rfl⟩ := List.getElem_of_mem hg
  obtain ⟨j, hj, rfl⟩ := List.getElem_of_mem hk
  have n1 := hne L[i] (List.getElem_mem _)
  have n2 := hne L[j] (List.getElem_mem _)
  have key : ∀ a b (ha : a < L.length) (hb : b < L.length), min L[a].2 L[b].2 < max L[a].1 L[b].1 → clashAt L a b = true := fun a b ha hb hc => by
    unfold clashAt clash
    rw [getD_at' ha, getD_at' hb]
    exact decide_eq_true hc
  rcases Nat.lt_trichotomy i j with hl | hl | hl
  · have := h i hi j hl hj
    rw [key i j hi hj (by omega)] at this
    cases this
  · subst hl; omega
  · have := h j hj i hl hi
    rw [key j i hj hi (by omega)] at this
    cases this
theorem atR_first {l : List PT} {d t : Int} (he : offE l d t = 0) {r : Option (Nat × Nat)} (h : First (offL l d t) r) : (atR l d t).2 = if r = none then 0 else 13 := by
  have hO := offE_zero he
  have hL : offL l d t ≠ [] := by
    intro e
    have := congrArg List.length e
    simp at this
    have := hO.n0
    subst_vars
    simp at this
  have hne : ∀ g ∈ offL l d t, g.1 ≤ g.2 := fun g hg => by
    obtain ⟨x, hx, rfl⟩ := List.mem_map.1 hg
    obtain ⟨k, hk, rfl⟩ := List.getElem_of_mem hx
    exact offV_ne (hO.ex k hk) hO.d hO.t
  unfold atR
  rw [if_pos he]
  cases r with
  | none => rw [if_neg (clash_none h hL hne)]; rfl
  | some p =>
    obtain ⟨i, j⟩ := p
    rw [if_pos (clash_some h)]; rfl

set_option maxHeartbeats 4000000 in
theorem contra_ok (A : Option Addr) (c : Nat) (l : List PT) (drift T : Int) (w : World) (hr : Rd w A (ps l)) (hl : l.length ≤ 22) :
    Calls Try.prog 4 #[.slice A l.length c, .int .i64 drift, .int .i64 T] w fun r w' => r = .returned (.bool true) ∧ Below w.heap.size w w' := by
  have HFEW := hide (fun W => few_c A l.length c W (by omega))
  rw [show decide ((l.length : Int) ≤ 22) = true by simp; omega] at HFEW
  have HCP := hide (fun W h => copyExchanges_c l A c W h (by omega))
  have HOA := hide (fun A' c' W h => offsetAt_c A' c' l drift T W h (by omega))
  have HCE := hide (fun W h => clockErr_c A c l drift T W h (by omega))
  -- what Contradicting and Pair answer, by ways
  have key : ∃ (p1 p2 pe q1 q2 : Int) (qb : Bool),
      Hid (∀ A' c' W, Rd W A' (ps l) → Calls Try.prog 21 #[.slice A' l.length c', .int .i64 drift, .int .i64 T] W fun e w' => e = .returned (.tuple #[.agg #[.int .i64 p1, .int .i64 p2], .int .i64 pe]) ∧ Below W.heap.size W w') ∧
      Hid (offE l drift T = 0 → ∀ W, Rd W A (ps l) → Calls Try.prog 22 #[.slice A l.length c, .int .i64 drift, .int .i64 T] W fun e w' => e = .returned (.tuple #[.agg #[.int .i64 q1, .int .i64 q2], .bool qb]) ∧ Below W.heap.size W w') ∧
      Hid ((offE l drift T ≠ 0 ∧ p1 = 0 ∧ p2 = 0 ∧ pe = offE l drift T) ∨ (offE l drift T = 0 ∧ qb = false ∧ pe = 12 ∧ p1 = 0 ∧ p2 = 0 ∧ (atR l drift T).2 = 0) ∨ (offE l drift T = 0 ∧ qb = true ∧ pe = 0 ∧ p1 = q1 ∧ p2 = q2 ∧ (atR l drift T).2 = 13)) := by
    by_cases he : offE l drift T = 0
    · obtain ⟨r, hF⟩ := First.ex (offL l drift T)
      have hA := atR_first he hF
      cases r with
      | none =>
        refine ⟨0, 0, 12, 0, 0, false, fun A' c' W h => (contradicting_ok A' c' l drift T W h (by omega) he).mono fun e w' hx => ?_, fun _ W h => (refPair_c A c l drift T W h (by omega) he).mono fun e w' hx => ?_, .inr (.inl ⟨he, rfl, rfl, rfl, rfl, hA⟩)⟩
        · obtain ⟨h1, hb⟩ := hx
          rcases h1 with ⟨i, j, h1, _⟩ | ⟨_, h1⟩
          · have := hF.uniq h1; cases this
          · exact ⟨h1, hb⟩
        · obtain ⟨h1, hb⟩ := hx
          rcases h1 with ⟨i, j, h1, _⟩ | ⟨_, h1⟩
          · have := hF.uniq h1; cases this
          · exact ⟨h1, hb⟩
      | some p =>
        obtain ⟨i, j⟩ := p
        refine ⟨i, j, 0, i, j, true, fun A' c' W h => (contradicting_ok A' c' l drift T W h (by omega) he).mono fun e w' hx => ?_, fun _ W h => (refPair_c A c l drift T W h (by omega) he).mono fun e w' hx => ?_, .inr (.inr ⟨he, rfl, rfl, rfl, rfl, hA⟩)⟩
        · obtain ⟨h1, hb⟩ := hx
          rcases h1 with ⟨i', j', h1, h2⟩ | ⟨h1, _⟩
          · have := hF.uniq h1; cases this; exact ⟨h2, hb⟩
          · have := hF.uniq h1; cases this
        · obtain ⟨h1, hb⟩ := hx
          rcases h1 with ⟨i', j', h1, h2⟩ | ⟨h1, _⟩
          · have := hF.uniq h1; cases this; exact ⟨h2, hb⟩
          · have := hF.uniq h1; cases this
    · exact ⟨0, 0, offE l drift T, 0, 0, false, fun A' c' W h => contradicting_bad A' c' l drift T W h (by omega) he, fun h => absurd h he, .inl ⟨he, rfl, rfl, rfl⟩⟩
  obtain ⟨p1, p2, pe, q1, q2, qb, HCON, HPR, HW⟩ := key
  generalize offE l drift T = E at HCE HPR HW
  generalize atR l drift T = at_ at HOA HW
  obtain ⟨⟨a1, a2⟩, ae⟩ := at_
  dsimp only at HOA HW
  have hq0 : ∀ w, (binOp .eql 42 (.agg #[.int .i64 0, .int .i64 0]) (.agg #[.int .i64 0, .int .i64 0])).run Try.prog w = .ok (.bool true) w := fun w => by rw [eql_pair, decide_eq_true rfl]
  have hqq : ∀ w, (binOp .eql 42 (.agg #[.int .i64 p1, .int .i64 p2]) (.agg #[.int .i64 p1, .int .i64 p2])).run Try.prog w = .ok (.bool true) w := fun w => by rw [eql_pair, decide_eq_true rfl]
  go_enter Try.func4, Try.ntmps4
  go_upto_region 6 with (first
    | (go_at_call 9; refine (awake_c _).mono ?_; rintro e_ w1 ⟨rfl, hb1⟩; have hr1 := hr.bel hb1)
    | (go_at_call 10; refine (HFEW.out _).mono ?_; rintro e_ w_ ⟨rfl, rfl⟩)
    | (go_at_call 12; refine (HCP.out _ hr1).mono ?_; rintro e_ w2 ⟨⟨A2, c2, rfl, hx2⟩, hb2⟩; have hr2 := hr1.bel hb2)
    | (go_at_call 21; refine (HCON.out _ _ _ hx2).mono ?_; rintro e_ w3 ⟨rfl, hb3⟩; have hr3 := hr2.bel hb3))
  obtain ⟨p, hp⟩ : ∃ p, w3.heap.size = p := ⟨_, rfl⟩
  obtain ⟨w4, hw4⟩ : ∃ W, w3.alloc (.cells #[.int .i64 p1, .int .i64 p2] 42) = W := ⟨_, rfl⟩
  have hP4 : Blk w4 p 42 [.int .i64 p1, .int .i64 p2] := by rw [← hw4, ← hp]; exact Blk.new w3 _ [_, _]
  have hb4 : Below w3.heap.size w3 w4 := by rw [← hw4]; exact alloc_bel _ _
  have hB4 : Below w.heap.size w w4 := ((tr hb1 hb2 hb1.size).trans (hb3.mono (by have := hb1.size; have := hb2.size; omega))).trans (hb4.mono (by have := hb1.size; have := hb2.size; have := hb3.size; omega))
  have hr4 := hr3.bel hb4
  rw [hw4, hp]
  clear hw4 hb1 hb2 hb3 hb4 hr1 hr2 hr3 hx2 hp HCON
  go_upto_region 8 with (first
    | (go_at_call 12; refine (HCP.out _ hr4).mono ?_; rintro e_ w5 ⟨⟨A5, c5, rfl, hx5⟩, hb5⟩; have hr5 := hr4.bel hb5)
    | (go_at_call 11; refine (HOA.out _ _ _ hx5).mono ?_; rintro e_ w6 ⟨rfl, hb6⟩; have hr6 := hr5.bel hb6; have hr7 := hr6.alloc (.cells #[.int .i64 a1, .int .i64 a2] 26))
    | (go_at_call 19; refine (HCE.out _ hr7).mono ?_; rintro e_ w8 ⟨rfl, hb8⟩; have hr8 := hr7.bel hb8))
  have hb48 : Below w4.heap.size w4 w8 := bel_tr (bel_alloc (tr hb5 hb6 hb5.size) (by have := hb5.size; have := hb6.size; omega) (.cells #[.int .i64 a1, .int .i64 a2] 26)) (by have := hb5.size; have := hb6.size; simp; omega) hb8
  have hP8 := hP4.bel hb48
  have hB8 := bel_tr hB4 hB4.size hb48
  have p0 := hP8.cell 0; have p1 := hP8.cell 1; simp only [List.getElem?_cons_zero, List.getElem?_cons_succ] at p0 p1
  have hzp := hP8.lt
  clear hb5 hb6 hb8 hr5 hr6 hr7 hx5 HCE HCP HOA HFEW hP4 hB4 hr4 hb48
  rcases HW.out with ⟨h1, h2, h3, h4⟩ | ⟨h1, h2, h3, h4, h5, h6⟩ | ⟨h1, h2, h3, h4, h5, h6⟩
  · subst h2 h3 h4
    have e1 : (pe != 0) = true := by simpa using h1
    clear h1 HW HPR hqq
    go_wp2
    go_ret
    exact ⟨rfl, hB8⟩
  · subst h1 h2 h3 h4 h5 h6
    have HPR2 := hide (HPR.out rfl)
    clear HW HPR hqq
    go_wp2_with (first | (go_at_call 22; refine (HPR2.out _ hr8).mono ?_; rintro e_ w9 ⟨rfl, hb9⟩; have hP9 := hP8.bel hb9; have r0 := hP9.cell 0; have r1 := hP9.cell 1; simp only [List.getElem?_cons_zero, List.getElem?_cons_succ] at r0 r1; have hz9 := hP9.lt))
    go_ret
    exact ⟨rfl, bel_alloc (bel_tr hB8 hB8.size hb9) (by have := hB8.size; have := hb9.size; omega) _⟩
  · subst h1 h2 h3 h4 h5 h6
    have HPR2 := hide (HPR.out rfl)
    clear HW HPR hq0
    go_wp2_with (first | (go_at_call 22; refine (HPR2.out _ hr8).mono ?_; rintro e_ w9 ⟨rfl, hb9⟩; have hP9 := hP8.bel hb9; have r0 := hP9.cell 0; have r1 := hP9.cell 1; simp only [List.getElem?_cons_zero, List.getElem?_cons_succ] at r0 r1; have hz9 := hP9.lt))
    go_ret
    exact ⟨rfl, bel_alloc (bel_tr hB8 hB8.size hb9) (by have := hB8.size; have := hb9.size; omega) _⟩
theorem contraLaw_c (A : Option Addr) (c : Nat) (l : List PT) (drift T : Int) (w : World) (hr : Rd w A (ps l)) (hmx : l.length ≤ maxLen) :
    Calls Try.prog 4 #[.slice A l.length c, .int .i64 drift, .int .i64 T] w fun r w' => r = .returned (.bool true) ∧ Below w.heap.size w w' := by
  by_cases h : l.length ≤ 22
  · exact contra_ok A c l drift T w hr h
  · have HFEW := hide (fun W => few_c A l.length c W (by unfold maxLen at hmx; omega))
    rw [show decide ((l.length : Int) ≤ 22) = false by simp; omega] at HFEW
    clear h hmx
    go_enter Try.func4, Try.ntmps4
    go_wp2_with (first
      | (go_at_call 9; refine (awake_c _).mono ?_; rintro e_ w1 ⟨rfl, hb1⟩)
      | (go_at_call 10; refine (HFEW.out _).mono ?_; rintro e_ w_ ⟨rfl, rfl⟩))
    go_ret
    exact ⟨rfl, hb1⟩
end Go.Proofs.Ytmdmkmfemhkfgaa
