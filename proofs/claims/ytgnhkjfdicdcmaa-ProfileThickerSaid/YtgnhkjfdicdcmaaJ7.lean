/- Law: thicker is higher. -/
import Derived.Test.YtgnhkjfdicdcmaaH6
import Derived.Test.YtgnhkjfdicdcmaaJ5
import Derived.Test.YtgnhkjfdicdcmaaFK
import Derived.Test.YtgnhkjfdicdcmaaG5
import Derived.Test.YtgnhkjfdicdcmaaG6
import Derived.Deep.Onto
namespace Go.Proofs.Ytgnhkjfdicdcmaa
open Go.RowKit
set_option maxRecDepth 100000


set_option maxHeartbeats 1000000 in
theorem copyOwn_c (base : Int) (A : Option Addr) (c : Nat) (l : List G) (w : World) (hr : Rd w A (gs l)) (hl : l.length ≤ 1000) :
    Calls Try.prog 18 #[.agg #[.int .i64 base, .slice A l.length c]] w fun r w' => (∃ v, r = .returned (.agg #[.int .i64 base, v]) ∧ w'.ownsRow w.heap.size 69 2 v l.length (gs l)) ∧ Below w.heap.size w w' := by
  obtain ⟨i0, hi, iz0, iz1, iz2⟩ := info_parts Try.infoS
  obtain ⟨W0, hW0⟩ : ∃ W0, (w.alloc (.cells #[.int .i64 base, .slice A l.length c] 24)).alloc (.cells #[.int .i64 0, .slice none 0 0] 24) = W0 := ⟨_, rfl⟩
  obtain ⟨p, hp⟩ : ∃ p, w.heap.size = p := ⟨_, rfl⟩
  have hX0 : Blk W0 p 24 [.int .i64 base, .slice A l.length c] := by rw [← hW0, ← hp]; exact (two_new w _ _ [_, _] [_, _]).1
  have hR0 : Blk W0 (p + 1) 24 [.int .i64 0, .slice none 0 0] := by rw [← hW0, ← hp]; exact (two_new w _ _ [_, _] [_, _]).2.1
  have hB0 : Below p w W0 := by rw [← hW0, ← hp]; exact (two_new w _ _ [_, _] [_, _]).2.2
  have hr0 := hr.bel (by rw [hp]; exact hB0)
  have HW := hide hW0
  have hsz : p ≤ W0.heap.size := by rw [← hW0, ← hp]; simp; omega
  clear hW0 hr
  have c0 := hX0.cell 0; have c1 := hX0.cell 1; simp only [List.getElem?_cons_zero, List.getElem?_cons_succ] at c0 c1
  have z0 := hR0.lt
  go_enter Try.func18, Try.ntmps18
  go_upto_region 1 with fail
  rw [HW.out]
  refine wp_region_held (S := fun w' => w'.cell? ⟨p, 0, none⟩ = some (.int .i64 base) ∧ w'.cell? ⟨p, 1, none⟩ = some (.slice A l.length c)) (by kernel_rfl) ?_
  have hSd : W0.drew.cell? ⟨p, 0, none⟩ = some (.int .i64 base) ∧ W0.drew.cell? ⟨p, 1, none⟩ = some (.slice A l.length c) := ⟨c0, c1⟩
  change wpAnyH _ _ _ _ _ _ _ _ W0.drew
  clear c0 c1
  refine wpAnyH_take (i := 0) (v := ?_) rfl (by kernel_rfl) (by kernel_rfl) (by kernel_rfl) (fun _ _ _ h => h) (Or.inl ⟨by kernel_rfl, ?_⟩) (by assumption) ?_
  rotate_left 1
  · (intro w hSw; obtain ⟨hk1, hk2⟩ := hSw; go_simp <;> with_reducible rfl)
  simp only [Act.put, List.getElem_toArray, List.getElem_cons_zero, List.setIfInBounds_toArray, List.set_cons_zero, List.set_cons_succ]
  refine wpAnyH_take (i := 1) (v := ?_) rfl (by kernel_rfl) (by kernel_rfl) (by kernel_rfl) (fun _ _ _ h => h) (Or.inl ⟨by kernel_rfl, ?_⟩) (by assumption) ?_
  rotate_left 1
  · (intro w hSw; obtain ⟨hk1, hk2⟩ := hSw; go_simp <;> with_reducible rfl)
  simp only [Act.put, List.getElem_toArray, List.getElem_cons_zero, List.getElem_cons_succ, List.setIfInBounds_toArray, List.set_cons_zero, List.set_cons_succ]
  refine wpAnyH_take (i := 3) (v := ?_) rfl (by kernel_rfl) (by kernel_rfl) (by kernel_rfl) (fun _ _ _ h => h) (Or.inl ⟨by kernel_rfl, ?_⟩) (by assumption) ?_
  rotate_left 1
  · (intro w hSw; obtain ⟨hk1, hk2⟩ := hSw; go_simp <;> with_reducible rfl)
  simp only [Act.put, List.getElem_toArray, List.getElem_cons_zero, List.getElem_cons_succ, List.setIfInBounds_toArray, List.set_cons_zero, List.set_cons_succ]
  refine wpAnyH_take (i := 4) (v := ?_) rfl (by kernel_rfl) (by kernel_rfl) (by kernel_rfl) (fun _ _ _ h => h) (Or.inl ⟨by kernel_rfl, ?_⟩) (by assumption) ?_
  rotate_left 1
  · (intro w hSw; obtain ⟨hk1, hk2⟩ := hSw; go_simp <;> with_reducible rfl)
  simp only [Act.put, List.getElem_toArray, List.getElem_cons_zero, List.getElem_cons_succ, List.setIfInBounds_toArray, List.set_cons_zero, List.set_cons_succ]
  refine nextH (i := 2) (by kernel_rfl) rfl (fun K hK => ?_)
  go_simp
  obtain ⟨W5, hW5⟩ : ∃ W5, (W0.alloc (.cells #[] 69)).drew = W5 := ⟨_, rfl⟩
  have hb5 : Below W0.heap.size W0 W5 := by rw [← hW5]; exact (alloc_bel _ _).drew
  have hown5 : W5.ownsRow W0.heap.size 69 2 (.slice (some ⟨W0.heap.size, 0, none⟩) 0 0) 0 [] := by rw [← hW5]; exact World.ownsRow_made W0 #[] 0 (Nat.le_refl _) (by unfold maxLen; omega) rfl
  have hX5 := hX0.bel hb5
  have hR5 := hR0.bel hb5
  have hr5 := hr0.bel hb5
  have hS5 : W5.cell? ⟨p, 0, none⟩ = some (.int .i64 base) ∧ W5.cell? ⟨p, 1, none⟩ = some (.slice A l.length c) := ⟨hX5.cell 0, hX5.cell 1⟩
  have hs5 : W0.heap.size ≤ W5.heap.size := hb5.size
  rw [hW5]
  clear hW5 hSd
  try dsimp only
  refine hK _ _ hS5 ?_
  clear hK K
  refine nextH (i := 5) (by kernel_rfl) rfl (fun K hK => ?_)
  refine step_append_rd _ (by rfl) _ _ _ (by rfl) W0.heap.size 69 i0 _ 2 16 Try.underlying22 hi iz0 iz1 iz2 rfl (by decide) (.slice (some ⟨W0.heap.size, 0, none⟩) 0 0) 0 [] (by rfl) hown5 A l.length c (gs l) (by rfl) (by simp) hr5 (gs_one l) (by unfold maxLen; omega) (by omega) hs5 ?_
  intro v6 W6 hown6 hg6
  obtain ⟨A6, c6, rfl⟩ := ownsRow_slice hown6
  have hX6 : Blk W6 p 24 [.int .i64 base, .slice A l.length c] := (hg6.block p hX5.lt (fun e => by have e' : some p = some W0.heap.size := e; have := Option.some.inj e'; omega)).trans hX5
  have hR6 : Blk W6 (p + 1) 24 [.int .i64 0, .slice none 0 0] := (hg6.block (p + 1) hR5.lt (fun e => by have e' : some (p + 1) = some W0.heap.size := e; have := Option.some.inj e'; omega)).trans hR5
  have hS6 : W6.cell? ⟨p, 0, none⟩ = some (.int .i64 base) ∧ W6.cell? ⟨p, 1, none⟩ = some (.slice A l.length c) := ⟨hX6.cell 0, hX6.cell 1⟩
  have hB6 : Below p w W6 := (hB0.trans (hb5.mono (by omega))).grown hg6 (by omega) (fun j hj => by have e' : some W0.heap.size = some j := hj; have := Option.some.inj e'; omega)
  simp only [Act.put, List.getElem_toArray, List.getElem_cons_zero, List.getElem_cons_succ, List.setIfInBounds_toArray, List.set_cons_zero, List.set_cons_succ]
  refine hK _ _ hS6 ?_
  clear hK K
  refine nextH (i := 6) (by kernel_rfl) rfl (fun K hK => ?_)
  go_simp
  refine hK _ _ hS6 ?_
  clear hK K
  have r0 := hR6.frozen 0
  have r1 := hR6.frozen 1
  have r2 := hR6.cell 0
  have r3 := hR6.cell 1
  have r4 := hR6.lt
  simp only [List.getElem?_cons_zero, List.getElem?_cons_succ] at r2 r3
  refine nextH (i := 7) (by kernel_rfl) rfl (fun K hK => ?_)
  go_simp
  have hBE : Below p w ((W6.setCell ⟨p + 1, 0, none⟩ (.int .i64 base)).setCell ⟨p + 1, 1, none⟩ (.slice A6 l.length c6)) := (hB6.setCell (by show p ≤ p + 1; omega) _).setCell (by show p ≤ p + 1; omega) _
  have hRE := (hR6.set_ 0 (.int .i64 base)).set_ 1 (.slice A6 l.length c6)
  have hXE := (hX6.far (p := ⟨p + 1, 0, none⟩) (by show p ≠ p + 1; omega) (.int .i64 base)).far (p := ⟨p + 1, 1, none⟩) (by show p ≠ p + 1; omega) (.slice A6 l.length c6)
  have hrE := own_far (own_far hown6 (p := ⟨p + 1, 0, none⟩) (by show p + 1 < W0.heap.size; omega) (.int .i64 base)) (p := ⟨p + 1, 1, none⟩) (by show p + 1 < W0.heap.size; omega) (.slice A6 l.length c6)
  generalize (W6.setCell ⟨p + 1, 0, none⟩ (.int .i64 base)).setCell ⟨p + 1, 1, none⟩ (.slice A6 l.length c6) = WE at hBE hRE hXE hrE ⊢
  refine hK _ _ ⟨hXE.cell 0, hXE.cell 1⟩ ?_
  clear hK K
  refine wpAnyH_done (by kernel_rfl) ?_ _
  have v0 := hRE.cell 0
  have v1 := hRE.cell 1
  simp only [List.set_cons_zero, List.set_cons_succ, List.getElem?_cons_zero, List.getElem?_cons_succ] at v0 v1
  go_wp2
  exact bodyPost_ret (v := .agg #[.int .i64 base, .slice A6 l.length c6]) (by simp [results, Try.results18, go_sem, v0, v1]; try rfl) rfl ⟨⟨_, rfl, by rw [hp]; exact World.ownsRow.mono (by simpa using hrE) hsz⟩, by rw [hp]; exact hBE⟩

theorem refErr_ok' (base : Int) (l : List G) (hl : Pro base l) (A : Option Addr) (c : Nat) (w : World) (hr : Rd w A (gs l)) :
    Calls Try.prog 30 #[.agg #[.int .i64 base, .slice A l.length c]] w fun r w' => r = .returned (.int .i64 0) ∧ Below w.heap.size w w' := by
  have h := refErr_c base A c l w hr (by have := hl.n1; omega)
  rw [hl.err] at h
  exact h
theorem gs_set0 {l : List G} {k : Nat} (hk : k < l.length) (u : Int) : (gs l).set (k * 2) (.int .i64 u) = gs (l.set k (u, l[k].2)) := by
  rw [← gs_set hk (u, l[k].2)]
  rw [List.set_comm _ _ (by omega)]
  congr 1
  refine (List.ext_getElem? fun j => ?_)
  rw [List.getElem?_set]
  split
  · rename_i e
    subst e
    rw [(gs_at hk).2]
    split
    · rfl
    · rename_i h; exact absurd (by rw [gs_length]; omega) h
  · rfl
theorem gs_set0' {l : List G} {k : Nat} (hk : k < l.length) (x a b : Int) : (gs (l.set k (x, b))).set (k * 2) (.int .i64 a) = gs (l.set k (a, b)) := by
  rw [gs_set0 (by simpa using hk)]
  simp
theorem own_ne {W : World} {base : Nat} {e : TypeId} {size n c g : Nat} {xs : List Value} (h : W.ownsRow base e size (.slice (some ⟨g, 0, none⟩) n c) n xs) {p : Addr} (hp : g ≠ p.block) (u : Value) : (W.setCell p u).ownsRow base e size (.slice (some ⟨g, 0, none⟩) n c) n xs := by
  refine h.kept (row := some p.block) ⟨rfl, rfl, rfl, by simp [World.setCell], fun k _ hne => Below.heap_setCell _ _ _ _ (fun e => hne (by rw [e]))⟩ (.inr ?_)
  intro he
  exact hp (Option.some.inj he)

set_option maxHeartbeats 4000000 in
theorem thicker_c (base fq sl th sq bs : Int) (A : Option Addr) (c : Nat) (l : List G) (w : World) (hr : Rd w A (gs l)) (hmx : l.length ≤ maxLen) :
    Calls Try.prog 9 #[.agg #[.int .i64 base, .slice A l.length c], .agg #[.int .i64 fq, .int .i64 sl, .int .i64 th, .int .i64 sq, .int .i64 bs]] w fun r w' => r = .returned (.bool true) ∧ Below w.heap.size w w' := by
  obtain ⟨W0, hW0⟩ : ∃ W0, (w.alloc (.cells #[.int .i64 base, .slice A l.length c] 24)).alloc (.cells #[.int .i64 fq, .int .i64 sl, .int .i64 th, .int .i64 sq, .int .i64 bs] 67) = W0 := ⟨_, rfl⟩
  obtain ⟨p, hp⟩ : ∃ p, w.heap.size = p := ⟨_, rfl⟩
  have hX0 : Blk W0 p 24 [.int .i64 base, .slice A l.length c] := by rw [← hW0, ← hp]; exact (two_new w _ _ [_, _] [_, _, _, _, _]).1
  have hC0 : Blk W0 (p + 1) 67 [.int .i64 fq, .int .i64 sl, .int .i64 th, .int .i64 sq, .int .i64 bs] := by rw [← hW0, ← hp]; exact (two_new w _ _ [_, _] [_, _, _, _, _]).2.1
  have HB0 : Below p w W0 := by rw [← hW0, ← hp]; exact (two_new w _ _ [_, _] [_, _, _, _, _]).2.2
  have hr0 := hr.bel (by rw [hp]; exact HB0)
  have HW := hide hW0
  clear hW0
  have k0_0 := hX0.cell 0; have k0_1 := hX0.cell 1; simp only [List.getElem?_cons_zero, List.getElem?_cons_succ] at k0_0 k0_1
  have x0_0 := hC0.cell 0; have x0_1 := hC0.cell 1; have x0_2 := hC0.cell 2; have x0_3 := hC0.cell 3; have x0_4 := hC0.cell 4; simp only [List.getElem?_cons_zero, List.getElem?_cons_succ] at x0_0 x0_1 x0_2 x0_3 x0_4
  have zk0 := hX0.lt
  have zx0 := hC0.lt
  have HF := hide (fun W => few_c base A c l W hmx)
  have HQ := hide (fun W => frequencyErr_c fq W)
  have HW1 := hide (fun W => within_c sl 0 ((l.length : Int) - 1) W)
  have HW2 := hide (fun W => within_c th 0 500 W)
  have HW3 := hide (fun W => within_c sq 0 9000000 W)
  have HW4 := hide (fun W => within_c bs 0 500 W)
  by_cases h14 : l.length ≤ 14
  · rw [decide_eq_true h14] at HF
    have hl : l.length ≤ 1000 := by omega
    clear h14 hmx
    have HE := hide (fun W h => refErr_c base A c l W h hl)
    by_cases g1 : (proE base l).2 = 0
    · have hP := proE_zero g1
      have g1' := g1
      rw [g1] at HE
      clear g1
      by_cases g2 : freqE fq = 0
      · obtain ⟨f1, f2⟩ := freqE_zero.1 g2
        rw [g2] at HQ
        cases o1 : outB sl 0 ((l.length : Int) - 1)
        · obtain ⟨a1, a2⟩ := outB_false.1 o1
          rw [o1] at HW1
          clear o1
          cases o2 : outB th 0 500
          · obtain ⟨a3, a4⟩ := outB_false.1 o2
            rw [o2] at HW2
            clear o2
            cases o3 : outB sq 0 9000000
            · obtain ⟨a5, a6⟩ := outB_false.1 o3
              rw [o3] at HW3
              clear o3
              cases o4 : outB bs 0 500
              · obtain ⟨a7, a8⟩ := outB_false.1 o4
                rw [o4] at HW4
                clear o4
                have HRA := hide (fun A c W h => reflectedAt_c base fq A c l W h hl)
                by_cases g3 : passN l fq = l.length
                · rw [(refl_out g1' g2 g3).1] at HRA
                  dsimp only at HRA
                  clear g1' g2 g3 hP
                  go_enter Try.func9, Try.ntmps9
                  go_upto_region 1 with fail
                  rw [HW.out]
                  go_upto_region 5 with (first
                    | (go_at_call 15; refine (awake_c _).mono ?_; rintro e_ w1 ⟨rfl, hb1⟩; have hX1 := hX0.bel hb1; have hC1 := hC0.bel hb1; have hr1 := hr0.bel hb1; have HB1 := bel_tr HB0 (by have := HB0.size; omega) hb1; have k1_0 := hX1.cell 0; have k1_1 := hX1.cell 1; simp only [List.getElem?_cons_zero, List.getElem?_cons_succ] at k1_0 k1_1; have zk1 := hX1.lt; have x1_0 := hC1.cell 0; have x1_1 := hC1.cell 1; have x1_2 := hC1.cell 2; have x1_3 := hC1.cell 3; have x1_4 := hC1.cell 4; simp only [List.getElem?_cons_zero, List.getElem?_cons_succ] at x1_0 x1_1 x1_2 x1_3 x1_4; have zx1 := hC1.lt)
                    | (go_at_call 16; refine (HF.out _).mono ?_; rintro e_ w2 ⟨rfl, hb2⟩; have hX2 := hX1.bel hb2; have hC2 := hC1.bel hb2; have hr2 := hr1.bel hb2; have HB2 := bel_tr HB1 (by have := HB1.size; omega) hb2; have k2_0 := hX2.cell 0; have k2_1 := hX2.cell 1; simp only [List.getElem?_cons_zero, List.getElem?_cons_succ] at k2_0 k2_1; have zk2 := hX2.lt; have x2_0 := hC2.cell 0; have x2_1 := hC2.cell 1; have x2_2 := hC2.cell 2; have x2_3 := hC2.cell 3; have x2_4 := hC2.cell 4; simp only [List.getElem?_cons_zero, List.getElem?_cons_succ] at x2_0 x2_1 x2_2 x2_3 x2_4; have zx2 := hC2.lt)
                    | (go_at_call 30; refine (HE.out _ hr2).mono ?_; rintro e_ w3 ⟨rfl, hb3⟩; have hX3 := hX2.bel hb3; have hC3 := hC2.bel hb3; have hr3 := hr2.bel hb3; have HB3 := bel_tr HB2 (by have := HB2.size; omega) hb3; have k3_0 := hX3.cell 0; have k3_1 := hX3.cell 1; simp only [List.getElem?_cons_zero, List.getElem?_cons_succ] at k3_0 k3_1; have zk3 := hX3.lt; have x3_0 := hC3.cell 0; have x3_1 := hC3.cell 1; have x3_2 := hC3.cell 2; have x3_3 := hC3.cell 3; have x3_4 := hC3.cell 4; simp only [List.getElem?_cons_zero, List.getElem?_cons_succ] at x3_0 x3_1 x3_2 x3_3 x3_4; have zx3 := hC3.lt)
                    | (go_at_call 39; refine (HQ.out _).mono ?_; rintro e_ w_ ⟨rfl, rfl⟩)
                    | (go_at_call 23; with_reducible refine (HW1.out _).mono ?_; rintro e_ w_ ⟨rfl, rfl⟩)
                    | (go_at_call 23; with_reducible refine (HW2.out _).mono ?_; rintro e_ w_ ⟨rfl, rfl⟩)
                    | (go_at_call 23; with_reducible refine (HW3.out _).mono ?_; rintro e_ w_ ⟨rfl, rfl⟩)
                    | (go_at_call 23; with_reducible refine (HW4.out _).mono ?_; rintro e_ w_ ⟨rfl, rfl⟩))
                  clear k0_0 k0_1 zk0 hX0 x0_0 x0_1 x0_2 x0_3 x0_4 zx0 hC0 k1_0 k1_1 zk1 hX1 x1_0 x1_1 x1_2 x1_3 x1_4 zx1 hC1 k2_0 k2_1 zk2 hX2 x2_0 x2_1 x2_2 x2_3 x2_4 zx2 hC2 hr0 hr1 hr2 hb1 hb2 hb3 HB0 HB1 HB2
                  go_cut [5, 6, 7] from 60 to 68 (fun t u v wx => t = .int .i64 0 ∧ u = .int .i64 0 ∧ v = .int .i64 21 ∧ Below w3.heap.size w3 wx)
                  case first =>
                    go_region_held3 (fun w' => (∀ b o, b < w3.heap.size → w'.cell? ⟨b, o, none⟩ = w3.cell? ⟨b, o, none⟩) ∧ Below w3.heap.size w3 w')
                      ((refine kp ?_; (repeat' (first | with_reducible exact Below.refl _ _ | with_reducible exact HC2.out | with_reducible exact HC1.out | with_reducible refine Below.drew ?_ | with_reducible refine bel_alloc ?_ ?_ _ | with_reducible refine Below.setCell ?_ ?_ _)); all_goals (first | omega | (simp <;> omega))))
                      (first
                        | (go_at_call 18; refine (copy_c base A c l _ ?_ hl).mono ?_; exact hr3.bel (by (repeat' (first | with_reducible exact Below.refl _ _ | with_reducible exact HC2.out | with_reducible exact HC1.out | with_reducible refine Below.drew ?_ | with_reducible refine bel_alloc ?_ ?_ _ | with_reducible refine Below.setCell ?_ ?_ _)); all_goals (first | omega | (simp <;> omega))); rintro e_ wA ⟨⟨A4, q4, rfl, hra⟩, hbA⟩; have HC1 : Hid (Below w3.heap.size w3 wA) := (by refine hide (Below.trans ?_ (hbA.mono ?_)); (repeat' (first | with_reducible exact Below.refl _ _ | with_reducible exact HC2.out | with_reducible exact HC1.out | with_reducible refine Below.drew ?_ | with_reducible refine bel_alloc ?_ ?_ _ | with_reducible refine Below.setCell ?_ ?_ _)); all_goals (first | omega | (simp <;> omega))); have sC1 := HC1.out.size)
                        | (go_at_call 42; refine (HRA.out A4 q4 _ (by first | exact hra | exact hra.drew)).mono ?_; rintro e_ wB ⟨rfl, hbB⟩; have HC2 : Hid (Below w3.heap.size w3 wB) := (by refine hide (Below.trans ?_ (hbB.mono ?_)); (repeat' (first | with_reducible exact Below.refl _ _ | with_reducible exact HC2.out | with_reducible exact HC1.out | with_reducible refine Below.drew ?_ | with_reducible refine bel_alloc ?_ ?_ _ | with_reducible refine Below.setCell ?_ ?_ _)); all_goals (first | omega | (simp <;> omega))); have sC2 := HC2.out.size))
                    all_goals (
                      go_wp2
                      go_meet
                      exact ⟨rfl, rfl, rfl, HC2.out⟩)
                  obtain ⟨rfl, rfl, rfl, hb4⟩ := hcut
                  obtain ⟨w4, rfl⟩ : ∃ x : World, x = wc := ⟨_, rfl⟩
                  have HB4 := bel_tr HB3 (by have := HB3.size; omega) hb4
                  go_wp2
                  go_ret
                  exact ⟨rfl, by rw [hp]; exact HB4⟩
                · rw [(refl_in g1' g2 g3).1] at HRA
                  dsimp only at HRA
                  obtain ⟨j, rfl⟩ : ∃ j : Nat, sl = j := ⟨sl.toNat, by omega⟩
                  have hj : j < l.length := by omega
                  have hS := hP.slabs
                  have vb := virt_bd hS f1 f2
                  have hH := hgt_bd hS (passN_le l fq)
                  have hn12 := hP.n1
                  have hb0 := hP.b0
                  have hb1_ := hP.b1
                  have hpl := passN_le l fq
                  have HVA := hide (fun A c W h => virtualAt_ok base fq A c l W h hP f1 f2 g3)
                  dsimp only [rangeV] at HVA
                  have HCO := hide (fun W h => copyOwn_c base A c l W h hl)
                  have tv := thicker_virt (th := th) (sq := sq) hS f1 a7 hj a3 a5
                  have tp := thicker_pass (f := fq) (th := th) (sq := sq) hj a3 a5
                  have HT : Hid (turned l fq j th sq = if j < passN l fq then (min (l[j].1 + sq) (fq * fq - 1), l[j].2 + th) else (l[j].1, l[j].2 + th)) := by show _ = _; unfold turned; rw [getD_at hj]
                  obtain ⟨NL, hNL⟩ : ∃ NL, l.set j (turned l fq j th sq) = NL := ⟨_, rfl⟩
                  rw [hNL] at tv tp
                  have hlen : NL.length = l.length := by rw [← hNL]; simp
                  have HNL := hide hNL
                  have HEM := hide (fun A c W (h : Rd W A (gs NL)) => refErr_c (base + bs) A c NL W h (by omega))
                  have HCN := hide (fun A c W (h : Rd W A (gs NL)) => copy_c (base + bs) A c NL W h (by omega))
                  rw [hlen] at HEM HCN
                  have hsj := hS.at hj
                  rw [getD_at hj] at hsj
                  have HGS1 : Hid (∀ u, (gs l).set (j * 2 + 1) (.int .i64 u) = gs (l.set j (l[j].1, u))) := fun u => gs_set1 hj u
                  have HGS0 : Hid (∀ x a b : Int, (gs (l.set j (x, b))).set (j * 2) (.int .i64 a) = gs (l.set j (a, b))) := fun x a b => gs_set0' hj x a b
                  have HGJ : Hid ((gs l)[j * 2]? = some (.int .i64 l[j].1) ∧ (gs l)[j * 2 + 1]? = some (.int .i64 l[j].2)) := gs_at hj
                  have HGK : Hid (∀ x b : Int, (gs (l.set j (x, b)))[j * 2]? = some (.int .i64 x)) := fun x b => by have := (gs_at (l := l.set j (x, b)) (k := j) (by simpa using hj)).1; simpa using this
                  have HWN := hide (fun W => within_c (hgt base l (passN l fq)) 0 10000 W)
                  rw [outB_false.2 (by omega)] at HWN
                  have hff := mul_bd (a := fq) (b := fq) (A := 3000) (B := 3000) (by omega) f2 (by omega) f2
                  have HR1 := hide (fun A c W h => reflectedAt_c base (fq + 1) A c l W h hl)
                  have HR2 := hide (fun (hq : fq ≠ 3000) (h : passN l (fq + 1) = l.length) => (refl_out (base := base) g1' (freqE_zero.2 ⟨by omega, by omega⟩) h).1)
                  have HR3 := hide (fun (hq : fq ≠ 3000) (h : passN l (fq + 1) ≠ l.length) => (refl_in (base := base) g1' (freqE_zero.2 ⟨by omega, by omega⟩) h).1)
                  have HHI := hide (higher hS (f := fq) (by omega))
                  have HVM := hide (fun A c W (h : Rd W A (gs NL)) hPN => virtualAt_ok (base + bs) fq A c NL W h hPN f1 f2 (by rw [hlen, tp]; exact g3))
                  rw [hlen] at HVM
                  dsimp only [rangeV] at HVM
                  clear hNL g1' g3 hP hS tp hlen
                  generalize hgt base l (passN l fq) = HN at HRA vb hH HWN HHI
                  generalize (virt base l fq).1 = v1 at HVA vb tv
                  generalize (virt base l fq).2 = v2 at HVA vb tv
                  generalize passN l fq = P at HRA HT hH hpl
                  generalize l[j].1 = s1 at HT HGS1 HGJ hsj
                  generalize l[j].2 = t1 at HT HGS1 HGJ hsj
                  generalize (virt (base + bs) NL fq).1 = m1 at HVM tv
                  generalize (virt (base + bs) NL fq).2 = m2 at HVM tv
                  have u1 : IntKind.i64.wrap (base + bs) = base + bs := by simp (disch := omega) only [IntWalk.i64_in]
                  have u2 : IntKind.i64.wrap (t1 + th) = t1 + th := by simp (disch := omega) only [IntWalk.i64_in]
                  have u3 : IntKind.i64.wrap (s1 + sq) = s1 + sq := by simp (disch := omega) only [IntWalk.i64_in]
                  have u5 : IntKind.i64.wrap (fq + 1) = fq + 1 := by simp (disch := omega) only [IntWalk.i64_in]
                  have hjI : ((j : Nat) : Int) < (l.length : Int) := by omega
                  go_enter Try.func9, Try.ntmps9
                  go_upto_region 1 with fail
                  rw [HW.out]
                  go_upto_region 5 with (first
                    | (go_at_call 15; refine (awake_c _).mono ?_; rintro e_ w1 ⟨rfl, hb1⟩; have hX1 := hX0.bel hb1; have hC1 := hC0.bel hb1; have hr1 := hr0.bel hb1; have HB1 := bel_tr HB0 (by have := HB0.size; omega) hb1; have k1_0 := hX1.cell 0; have k1_1 := hX1.cell 1; simp only [List.getElem?_cons_zero, List.getElem?_cons_succ] at k1_0 k1_1; have zk1 := hX1.lt; have x1_0 := hC1.cell 0; have x1_1 := hC1.cell 1; have x1_2 := hC1.cell 2; have x1_3 := hC1.cell 3; have x1_4 := hC1.cell 4; simp only [List.getElem?_cons_zero, List.getElem?_cons_succ] at x1_0 x1_1 x1_2 x1_3 x1_4; have zx1 := hC1.lt)
                    | (go_at_call 16; refine (HF.out _).mono ?_; rintro e_ w2 ⟨rfl, hb2⟩; have hX2 := hX1.bel hb2; have hC2 := hC1.bel hb2; have hr2 := hr1.bel hb2; have HB2 := bel_tr HB1 (by have := HB1.size; omega) hb2; have k2_0 := hX2.cell 0; have k2_1 := hX2.cell 1; simp only [List.getElem?_cons_zero, List.getElem?_cons_succ] at k2_0 k2_1; have zk2 := hX2.lt; have x2_0 := hC2.cell 0; have x2_1 := hC2.cell 1; have x2_2 := hC2.cell 2; have x2_3 := hC2.cell 3; have x2_4 := hC2.cell 4; simp only [List.getElem?_cons_zero, List.getElem?_cons_succ] at x2_0 x2_1 x2_2 x2_3 x2_4; have zx2 := hC2.lt)
                    | (go_at_call 30; refine (HE.out _ hr2).mono ?_; rintro e_ w3 ⟨rfl, hb3⟩; have hX3 := hX2.bel hb3; have hC3 := hC2.bel hb3; have hr3 := hr2.bel hb3; have HB3 := bel_tr HB2 (by have := HB2.size; omega) hb3; have k3_0 := hX3.cell 0; have k3_1 := hX3.cell 1; simp only [List.getElem?_cons_zero, List.getElem?_cons_succ] at k3_0 k3_1; have zk3 := hX3.lt; have x3_0 := hC3.cell 0; have x3_1 := hC3.cell 1; have x3_2 := hC3.cell 2; have x3_3 := hC3.cell 3; have x3_4 := hC3.cell 4; simp only [List.getElem?_cons_zero, List.getElem?_cons_succ] at x3_0 x3_1 x3_2 x3_3 x3_4; have zx3 := hC3.lt)
                    | (go_at_call 39; refine (HQ.out _).mono ?_; rintro e_ w_ ⟨rfl, rfl⟩)
                    | (go_at_call 23; with_reducible refine (HW1.out _).mono ?_; rintro e_ w_ ⟨rfl, rfl⟩)
                    | (go_at_call 23; with_reducible refine (HW2.out _).mono ?_; rintro e_ w_ ⟨rfl, rfl⟩)
                    | (go_at_call 23; with_reducible refine (HW3.out _).mono ?_; rintro e_ w_ ⟨rfl, rfl⟩)
                    | (go_at_call 23; with_reducible refine (HW4.out _).mono ?_; rintro e_ w_ ⟨rfl, rfl⟩))
                  clear k0_0 k0_1 zk0 hX0 x0_0 x0_1 x0_2 x0_3 x0_4 zx0 hC0 k1_0 k1_1 zk1 hX1 x1_0 x1_1 x1_2 x1_3 x1_4 zx1 hC1 k2_0 k2_1 zk2 hX2 x2_0 x2_1 x2_2 x2_3 x2_4 zx2 hC2 hr0 hr1 hr2 hb1 hb2 hb3 HB0 HB1 HB2
                  go_cut [5, 6, 7] from 60 to 68 (fun t u v wx => t = .int .i64 HN ∧ u = .int .i64 P ∧ v = .int .i64 0 ∧ Below w3.heap.size w3 wx)
                  case first =>
                    go_region_held3 (fun w' => (∀ b o, b < w3.heap.size → w'.cell? ⟨b, o, none⟩ = w3.cell? ⟨b, o, none⟩) ∧ Below w3.heap.size w3 w')
                      ((refine kp ?_; (repeat' (first | with_reducible exact Below.refl _ _ | with_reducible exact HC2.out | with_reducible exact HC1.out | with_reducible refine Below.drew ?_ | with_reducible refine bel_alloc ?_ ?_ _ | with_reducible refine Below.setCell ?_ ?_ _)); all_goals (first | omega | (simp <;> omega))))
                      (first
                        | (go_at_call 18; refine (copy_c base A c l _ ?_ hl).mono ?_; exact hr3.bel (by (repeat' (first | with_reducible exact Below.refl _ _ | with_reducible exact HC2.out | with_reducible exact HC1.out | with_reducible refine Below.drew ?_ | with_reducible refine bel_alloc ?_ ?_ _ | with_reducible refine Below.setCell ?_ ?_ _)); all_goals (first | omega | (simp <;> omega))); rintro e_ wA ⟨⟨A4, q4, rfl, hra⟩, hbA⟩; have HC1 : Hid (Below w3.heap.size w3 wA) := (by refine hide (Below.trans ?_ (hbA.mono ?_)); (repeat' (first | with_reducible exact Below.refl _ _ | with_reducible exact HC2.out | with_reducible exact HC1.out | with_reducible refine Below.drew ?_ | with_reducible refine bel_alloc ?_ ?_ _ | with_reducible refine Below.setCell ?_ ?_ _)); all_goals (first | omega | (simp <;> omega))); have sC1 := HC1.out.size)
                        | (go_at_call 42; refine (HRA.out A4 q4 _ (by first | exact hra | exact hra.drew)).mono ?_; rintro e_ wB ⟨rfl, hbB⟩; have HC2 : Hid (Below w3.heap.size w3 wB) := (by refine hide (Below.trans ?_ (hbB.mono ?_)); (repeat' (first | with_reducible exact Below.refl _ _ | with_reducible exact HC2.out | with_reducible exact HC1.out | with_reducible refine Below.drew ?_ | with_reducible refine bel_alloc ?_ ?_ _ | with_reducible refine Below.setCell ?_ ?_ _)); all_goals (first | omega | (simp <;> omega))); have sC2 := HC2.out.size))
                    all_goals (
                      go_wp2
                      go_meet
                      exact ⟨rfl, rfl, rfl, HC2.out⟩)
                  obtain ⟨rfl, rfl, rfl, hb4⟩ := hcut
                  obtain ⟨w4, rfl⟩ : ∃ x : World, x = wc := ⟨_, rfl⟩
                  have hX4 := hX3.bel hb4
                  have hC4 := hC3.bel hb4
                  have hr4 := hr3.bel hb4
                  have HB4 := bel_tr HB3 (by have := HB3.size; omega) hb4
                  clear k3_0 k3_1 zk3 hX3 x3_0 x3_1 x3_2 x3_3 x3_4 zx3 hC3 hr3 
                  have k4_0 := hX4.cell 0; have k4_1 := hX4.cell 1; simp only [List.getElem?_cons_zero, List.getElem?_cons_succ] at k4_0 k4_1
                  have zk4 := hX4.lt
                  have x4_0 := hC4.cell 0; have x4_1 := hC4.cell 1; have x4_2 := hC4.cell 2; have x4_3 := hC4.cell 3; have x4_4 := hC4.cell 4; simp only [List.getElem?_cons_zero, List.getElem?_cons_succ] at x4_0 x4_1 x4_2 x4_3 x4_4
                  have zx4 := hC4.lt
                  go_upto_region 8 with fail
                  go_cut [8, 9] from 73 to 80 (fun t u wx => ∃ g : Nat, t = .pointer (some ⟨g, 0, none⟩) ∧ u = .int .i64 0 ∧ Blk wx g 54 [.int .i64 v1, .int .i64 v2] ∧ w4.heap.size ≤ g ∧ Below w4.heap.size w4 wx)
                  case first =>
                    go_region_held3 (fun w' => (∀ b o, b < w4.heap.size → w'.cell? ⟨b, o, none⟩ = w4.cell? ⟨b, o, none⟩) ∧ Below w4.heap.size w4 w')
                      ((refine kp ?_; (repeat' (first | with_reducible exact Below.refl _ _ | with_reducible exact HC2.out | with_reducible exact HC1.out | with_reducible refine Below.drew ?_ | with_reducible refine bel_alloc ?_ ?_ _ | with_reducible refine Below.setCell ?_ ?_ _)); all_goals (first | omega | (simp <;> omega))))
                      (first
                        | (go_at_call 18; refine (copy_c base A c l _ ?_ hl).mono ?_; exact hr4.bel (by (repeat' (first | with_reducible exact Below.refl _ _ | with_reducible exact HC2.out | with_reducible exact HC1.out | with_reducible refine Below.drew ?_ | with_reducible refine bel_alloc ?_ ?_ _ | with_reducible refine Below.setCell ?_ ?_ _)); all_goals (first | omega | (simp <;> omega))); rintro e_ wA ⟨⟨A4, q4, rfl, hra⟩, hbA⟩; have HC1 : Hid (Below w4.heap.size w4 wA) := (by refine hide (Below.trans ?_ (hbA.mono ?_)); (repeat' (first | with_reducible exact Below.refl _ _ | with_reducible exact HC2.out | with_reducible exact HC1.out | with_reducible refine Below.drew ?_ | with_reducible refine bel_alloc ?_ ?_ _ | with_reducible refine Below.setCell ?_ ?_ _)); all_goals (first | omega | (simp <;> omega))); have sC1 := HC1.out.size; have hA1 := hbA.size; (try (refine (have BA : Blk wA w4.heap.size 54 [.int .i64 0, .int .i64 0] := ?_; ?_); (focus (refine Blk.bel ?_ hbA; first | exact Blk.new w4 _ [_, _] | exact Blk.new w4.drew _ [_, _]; done)); have BAc0 := BA.cell 0; have BAc1 := BA.cell 1; have BAf0 := BA.frozen 0; have BAf1 := BA.frozen 1; have BAl := BA.lt; simp only [List.getElem?_cons_zero, List.getElem?_cons_succ] at BAc0 BAc1)))
                        | (go_at_call 43; refine (HVA.out A4 q4 _ (by first | exact hra | exact hra.drew | exact hra.alloc _ | exact hra.bel (by (repeat' (first | with_reducible exact Below.refl _ _ | with_reducible exact HC2.out | with_reducible exact HC1.out | with_reducible refine Below.drew ?_ | with_reducible refine bel_alloc ?_ ?_ _ | with_reducible refine Below.setCell ?_ ?_ _)); all_goals (first | omega | (simp <;> omega))))).mono ?_; rintro e_ wB ⟨rfl, hbB⟩; have HC2 : Hid (Below w4.heap.size w4 wB) := (by refine hide (Below.trans ?_ (hbB.mono ?_)); (repeat' (first | with_reducible exact Below.refl _ _ | with_reducible exact HC2.out | with_reducible exact HC1.out | with_reducible refine Below.drew ?_ | with_reducible refine bel_alloc ?_ ?_ _ | with_reducible refine Below.setCell ?_ ?_ _)); all_goals (first | omega | (simp <;> omega))); have sC2 := HC2.out.size; have hB1 := hbB.size; (try (refine (have BB : Blk wB w4.heap.size 54 [.int .i64 0, .int .i64 0] := ?_; ?_); (focus (refine Blk.bel ?_ hbB; exact BA; done)); have BBc0 := BB.cell 0; have BBc1 := BB.cell 1; have BBf0 := BB.frozen 0; have BBf1 := BB.frozen 1; have BBl := BB.lt; simp only [List.getElem?_cons_zero, List.getElem?_cons_succ] at BBc0 BBc1)); (try (refine (have BC : Blk wB wA.heap.size 54 [.int .i64 0, .int .i64 0] := ?_; ?_); (focus (refine Blk.bel ?_ hbB; first | exact Blk.new wA _ [_, _] | exact Blk.new wA.drew _ [_, _]; done)); have BCc0 := BC.cell 0; have BCc1 := BC.cell 1; have BCf0 := BC.frozen 0; have BCf1 := BC.frozen 1; have BCl := BC.lt; simp only [List.getElem?_cons_zero, List.getElem?_cons_succ] at BCc0 BCc1))))
                    all_goals go_wp2
                    all_goals go_meet
                    all_goals refine ⟨_, rfl, rfl, (by first | exact (BB.set_ 0 _).set_ 1 _ | exact (BC.set_ 0 _).set_ 1 _ | exact Blk.new _ _ [_, _] | exact ((Blk.new _ _ [_, _]).set_ 0 _).set_ 1 _), (by first | exact Nat.le_refl _ | omega | (simp [World.setCell]; omega)), ?_⟩
                    all_goals (repeat' (first | with_reducible exact HC2.out | with_reducible refine bel_alloc ?_ ?_ _ | with_reducible refine Below.setCell ?_ ?_ _))
                    all_goals first | omega | (simp <;> omega)
                  obtain ⟨v, rfl, rfl, hV5, hzv, hb5⟩ := hcut
                  obtain ⟨w5, rfl⟩ : ∃ x : World, x = wc := ⟨_, rfl⟩
                  have hpv : p + 1 < v := by omega
                  have hX5 := hX4.bel hb5
                  have hC5 := hC4.bel hb5
                  have hr5 := hr4.bel hb5
                  have HB5 := bel_tr HB4 (by have := HB4.size; omega) hb5
                  clear k4_0 k4_1 zk4 hX4 x4_0 x4_1 x4_2 x4_3 x4_4 zx4 hC4 hr4 
                  have k5_0 := hX5.cell 0; have k5_1 := hX5.cell 1; simp only [List.getElem?_cons_zero, List.getElem?_cons_succ] at k5_0 k5_1
                  have zk5 := hX5.lt
                  have x5_0 := hC5.cell 0; have x5_1 := hC5.cell 1; have x5_2 := hC5.cell 2; have x5_3 := hC5.cell 3; have x5_4 := hC5.cell 4; simp only [List.getElem?_cons_zero, List.getElem?_cons_succ] at x5_0 x5_1 x5_2 x5_3 x5_4
                  have zx5 := hC5.lt
                  have v5_0 := hV5.cell 0; have v5_1 := hV5.cell 1; simp only [List.getElem?_cons_zero, List.getElem?_cons_succ] at v5_0 v5_1
                  have zv5 := hV5.lt
                  have hv5 := hV5.lt
                  go_upto_region 11 with (first | (go_at_call 23; refine (HWN.out _).mono ?_; rintro e_ w_ ⟨rfl, rfl⟩))
                  go_upto_region 12 with (first | (go_at_call 18; refine (HCO.out _ hr5).mono ?_; rintro e_ w6 ⟨⟨vv, rfl, hown6⟩, hb6⟩; obtain ⟨rg, rc, rfl, hrg, hrl⟩ := World.ownsRow.form hown6 (by omega)))
                  have hX6 := hX5.bel hb6
                  have hC6 := hC5.bel hb6
                  have hV6 := hV5.bel hb6
                  have hr6 := hr5.bel hb6
                  have HB6 := bel_tr HB5 (by have := HB5.size; omega) hb6
                  clear k5_0 k5_1 zk5 hX5 x5_0 x5_1 x5_2 x5_3 x5_4 zx5 hC5 v5_0 v5_1 zv5 hV5 hr5 
                  have k6_0 := hX6.cell 0; have k6_1 := hX6.cell 1; simp only [List.getElem?_cons_zero, List.getElem?_cons_succ] at k6_0 k6_1
                  have zk6 := hX6.lt
                  have x6_0 := hC6.cell 0; have x6_1 := hC6.cell 1; have x6_2 := hC6.cell 2; have x6_3 := hC6.cell 3; have x6_4 := hC6.cell 4; simp only [List.getElem?_cons_zero, List.getElem?_cons_succ] at x6_0 x6_1 x6_2 x6_3 x6_4
                  have zx6 := hC6.lt
                  have v6_0 := hV6.cell 0; have v6_1 := hV6.cell 1; simp only [List.getElem?_cons_zero, List.getElem?_cons_succ] at v6_0 v6_1
                  have zv6 := hV6.lt
                  obtain ⟨bm, hbm⟩ : ∃ bm, w6.heap.size = bm := ⟨_, rfl⟩
                  obtain ⟨w7, hW7⟩ : ∃ W, w6.alloc (.cells #[.int .i64 base, .slice (some ⟨rg, 0, none⟩) l.length rc] 24) = W := ⟨_, rfl⟩
                  have hb7 : Below w6.heap.size w6 w7 := by rw [← hW7]; exact alloc_bel _ _
                  have hM7 : Blk w7 bm 24 [.int .i64 base, .slice (some ⟨rg, 0, none⟩) l.length rc] := by rw [← hW7, ← hbm]; exact Blk.new w6 _ [_, _]
                  have hown7 := ownsRow_bel hown6 hb7
                  have hpr : v < rg := by omega
                  have hrb : rg < bm := by omega
                  have hX7 := hX6.bel hb7
                  have hC7 := hC6.bel hb7
                  have hV7 := hV6.bel hb7
                  have hr7 := hr6.bel hb7
                  have HB7 := bel_tr HB6 (by have := HB6.size; omega) hb7
                  clear k6_0 k6_1 zk6 hX6 x6_0 x6_1 x6_2 x6_3 x6_4 zx6 hC6 v6_0 v6_1 zv6 hV6 hr6 
                  have k7_0 := hX7.cell 0; have k7_1 := hX7.cell 1; simp only [List.getElem?_cons_zero, List.getElem?_cons_succ] at k7_0 k7_1
                  have zk7 := hX7.lt
                  have x7_0 := hC7.cell 0; have x7_1 := hC7.cell 1; have x7_2 := hC7.cell 2; have x7_3 := hC7.cell 3; have x7_4 := hC7.cell 4; simp only [List.getElem?_cons_zero, List.getElem?_cons_succ] at x7_0 x7_1 x7_2 x7_3 x7_4
                  have zx7 := hC7.lt
                  have v7_0 := hV7.cell 0; have v7_1 := hV7.cell 1; simp only [List.getElem?_cons_zero, List.getElem?_cons_succ] at v7_0 v7_1
                  have zv7 := hV7.lt
                  try rw [hbm]
                  rw [hW7]
                  clear hW7
                  have m7_0 := hM7.cell 0; have m7_1 := hM7.cell 1; simp only [List.getElem?_cons_zero, List.getElem?_cons_succ] at m7_0 m7_1
                  have m7f := hM7.frozen 0
                  have zm7 := hM7.lt
                  go_upto_region 13 with fail
                  obtain ⟨w8, hW8⟩ : ∃ W, w7.setCell ⟨bm, 0, none⟩ (.int .i64 (base + bs)) = W := ⟨_, rfl⟩
                  have hX8 : Blk w8 p 24 [.int .i64 base, .slice A l.length c] := by rw [← hW8]; exact hX7.far (by show p ≠ bm; omega) _
                  have hC8 : Blk w8 (p + 1) 67 [.int .i64 fq, .int .i64 (j : Nat), .int .i64 th, .int .i64 sq, .int .i64 bs] := by rw [← hW8]; exact hC7.far (by show p + 1 ≠ bm; omega) _
                  have hV8 : Blk w8 v 54 [.int .i64 v1, .int .i64 v2] := by rw [← hW8]; exact hV7.far (by show v ≠ bm; omega) _
                  have hM8 : Blk w8 bm 24 [.int .i64 (base + bs), .slice (some ⟨rg, 0, none⟩) l.length rc] := by rw [← hW8]; exact hM7.set_ 0 _
                  have hown8 : w8.ownsRow w5.heap.size 69 2 (.slice (some ⟨rg, 0, none⟩) l.length rc) l.length (gs l) := by rw [← hW8]; exact own_ne hown7 (by show rg ≠ bm; omega) _
                  have HB8 : Below p w w8 := by rw [← hW8]; exact HB7.setCell (by show p ≤ bm; omega) _
                  rw [hW8]
                  clear hW8 k7_0 k7_1 zk7 x7_0 x7_1 x7_2 x7_3 x7_4 zx7 v7_0 v7_1 zv7 m7_0 m7_1 zm7 hX7 hC7 hV7 hM7 hown6 hown7 m7f hb6 hb7 hb4 hb5
                  have k8_0 := hX8.cell 0; have k8_1 := hX8.cell 1; simp only [List.getElem?_cons_zero, List.getElem?_cons_succ] at k8_0 k8_1
                  have zk8 := hX8.lt
                  have x8_0 := hC8.cell 0; have x8_1 := hC8.cell 1; have x8_2 := hC8.cell 2; have x8_3 := hC8.cell 3; have x8_4 := hC8.cell 4; simp only [List.getElem?_cons_zero, List.getElem?_cons_succ] at x8_0 x8_1 x8_2 x8_3 x8_4
                  have zx8 := hC8.lt
                  have v8_0 := hV8.cell 0; have v8_1 := hV8.cell 1; simp only [List.getElem?_cons_zero, List.getElem?_cons_succ] at v8_0 v8_1
                  have zv8 := hV8.lt
                  have m8_0 := hM8.cell 0; have m8_1 := hM8.cell 1; simp only [List.getElem?_cons_zero, List.getElem?_cons_succ] at m8_0 m8_1
                  have zm8 := hM8.lt
                  have y0 := (hown8.cellAt (j * 2 + 1) (by omega)).trans HGJ.out.2
                  have y1 := hown8.frozenAt (j * 2 + 1)
                  have y2 : rg < w8.heap.size := by omega
                  refine wp_region_M (fun w' => (∀ b o, b < w8.heap.size → w'.cell? ⟨b, o, none⟩ = w8.cell? ⟨b, o, none⟩) ∧ Below w8.heap.size w8 w') 16 (by kernel_rfl) ?_
                  have hSd : (∀ b o, b < w8.heap.size → w8.drew.cell? ⟨b, o, none⟩ = w8.cell? ⟨b, o, none⟩) ∧ Below w8.heap.size w8 w8.drew := kp (Below.refl _ _).drew
                  refine AnyM.take (i := 0) (v := ?_) rfl (by kernel_rfl) (by kernel_rfl) (by kernel_rfl) (by kernel_rfl) (fun _ _ _ h => h) (Or.inl ⟨by rfl, ?_⟩) (by assumption) ?_
                  rotate_left 1
                  · (intro w hSw; obtain ⟨hk1, hk2⟩ := hSw; go_simp <;> with_reducible rfl)
                  simp only [Act.put, List.getElem_toArray, List.getElem_cons_zero, List.setIfInBounds_toArray, List.set_cons_zero, List.set_cons_succ]
                  refine AnyM.take (i := 1) (v := ?_) rfl (by kernel_rfl) (by kernel_rfl) (by kernel_rfl) (by kernel_rfl) (fun _ _ _ h => h) (Or.inl ⟨by rfl, ?_⟩) (by assumption) ?_
                  rotate_left 1
                  · (intro w hSw; obtain ⟨hk1, hk2⟩ := hSw; go_simp <;> with_reducible rfl)
                  simp only [Act.put, List.getElem_toArray, List.getElem_cons_zero, List.getElem_cons_succ, List.setIfInBounds_toArray, List.set_cons_zero, List.set_cons_succ]
                  refine AnyM.take (i := 2) (v := ?_) rfl (by kernel_rfl) (by kernel_rfl) (by kernel_rfl) (by kernel_rfl) (fun _ _ _ h => h) (Or.inl ⟨by rfl, ?_⟩) (by assumption) ?_
                  rotate_left 1
                  · (intro w hSw; obtain ⟨hk1, hk2⟩ := hSw; go_simp <;> with_reducible rfl)
                  simp only [Act.put, List.getElem_toArray, List.getElem_cons_zero, List.getElem_cons_succ, List.setIfInBounds_toArray, List.set_cons_zero, List.set_cons_succ]
                  refine AnyM.take (i := 3) (v := ?_) rfl (by kernel_rfl) (by kernel_rfl) (by kernel_rfl) (by kernel_rfl) (fun _ _ _ h => h) (Or.inl ⟨by rfl, ?_⟩) (by assumption) ?_
                  rotate_left 1
                  · (intro w hSw; obtain ⟨hk1, hk2⟩ := hSw; go_simp <;> with_reducible rfl)
                  simp only [Act.put, List.getElem_toArray, List.getElem_cons_zero, List.getElem_cons_succ, List.setIfInBounds_toArray, List.set_cons_zero, List.set_cons_succ]
                  refine AnyM.take (i := 4) (v := ?_) rfl (by kernel_rfl) (by kernel_rfl) (by kernel_rfl) (by kernel_rfl) (fun _ _ _ h => h) (Or.inl ⟨by rfl, ?_⟩) (by assumption) ?_
                  rotate_left 1
                  · (intro w hSw; obtain ⟨hk1, hk2⟩ := hSw; go_simp <;> with_reducible rfl)
                  simp only [Act.put, List.getElem_toArray, List.getElem_cons_zero, List.getElem_cons_succ, List.setIfInBounds_toArray, List.set_cons_zero, List.set_cons_succ]
                  refine AnyM.take (i := 5) (v := ?_) rfl (by kernel_rfl) (by kernel_rfl) (by kernel_rfl) (by kernel_rfl) (fun _ _ _ h => h) (Or.inl ⟨by rfl, ?_⟩) (by assumption) ?_
                  rotate_left 1
                  · (intro w hSw; obtain ⟨hk1, hk2⟩ := hSw; go_simp <;> with_reducible rfl)
                  simp only [Act.put, List.getElem_toArray, List.getElem_cons_zero, List.getElem_cons_succ, List.setIfInBounds_toArray, List.set_cons_zero, List.set_cons_succ]
                  refine AnyM.take (i := 6) (v := ?_) rfl (by kernel_rfl) (by kernel_rfl) (by kernel_rfl) (by kernel_rfl) (fun _ _ _ h => h) (Or.inl ⟨by rfl, ?_⟩) (by assumption) ?_
                  rotate_left 1
                  · (intro w hSw; obtain ⟨hk1, hk2⟩ := hSw; go_simp <;> with_reducible rfl)
                  simp only [Act.put, List.getElem_toArray, List.getElem_cons_zero, List.getElem_cons_succ, List.setIfInBounds_toArray, List.set_cons_zero, List.set_cons_succ]
                  refine AnyM.take (i := 7) (v := ?_) rfl (by kernel_rfl) (by kernel_rfl) (by kernel_rfl) (by kernel_rfl) (fun _ _ _ h => h) (Or.inl ⟨by rfl, ?_⟩) (by assumption) ?_
                  rotate_left 1
                  · (intro w hSw; obtain ⟨hk1, hk2⟩ := hSw; go_simp <;> with_reducible rfl)
                  simp only [Act.put, List.getElem_toArray, List.getElem_cons_zero, List.getElem_cons_succ, List.setIfInBounds_toArray, List.set_cons_zero, List.set_cons_succ]
                  refine AnyM.take (i := 8) (v := ?_) rfl (by kernel_rfl) (by kernel_rfl) (by kernel_rfl) (by kernel_rfl) (fun _ _ _ h => h) (Or.inl ⟨by rfl, ?_⟩) (by assumption) ?_
                  rotate_left 1
                  · (intro w hSw; obtain ⟨hk1, hk2⟩ := hSw; go_simp <;> with_reducible rfl)
                  simp only [Act.put, List.getElem_toArray, List.getElem_cons_zero, List.getElem_cons_succ, List.setIfInBounds_toArray, List.set_cons_zero, List.set_cons_succ]
                  refine AnyM.take (i := 9) (v := ?_) rfl (by kernel_rfl) (by kernel_rfl) (by kernel_rfl) (by kernel_rfl) (fun _ _ _ h => h) (Or.inl ⟨by rfl, ?_⟩) (by assumption) ?_
                  rotate_left 1
                  · (intro w hSw; obtain ⟨hk1, hk2⟩ := hSw; go_simp <;> with_reducible rfl)
                  simp only [Act.put, List.getElem_toArray, List.getElem_cons_zero, List.getElem_cons_succ, List.setIfInBounds_toArray, List.set_cons_zero, List.set_cons_succ]
                  refine AnyM.take (i := 10) (v := ?_) rfl (by kernel_rfl) (by kernel_rfl) (by kernel_rfl) (by kernel_rfl) (fun _ _ _ h => h) (Or.inl ⟨by rfl, ?_⟩) (by assumption) ?_
                  rotate_left 1
                  · (intro w hSw; obtain ⟨hk1, hk2⟩ := hSw; go_simp <;> with_reducible rfl)
                  simp only [Act.put, List.getElem_toArray, List.getElem_cons_zero, List.getElem_cons_succ, List.setIfInBounds_toArray, List.set_cons_zero, List.set_cons_succ]
                  refine AnyM.take (i := 11) (v := ?_) rfl (by kernel_rfl) (by kernel_rfl) (by kernel_rfl) (by kernel_rfl) (fun _ _ _ h => h) (Or.inl ⟨by rfl, ?_⟩) (by assumption) ?_
                  rotate_left 1
                  · (intro w hSw; obtain ⟨hk1, hk2⟩ := hSw; go_simp <;> with_reducible rfl)
                  simp only [Act.put, List.getElem_toArray, List.getElem_cons_zero, List.getElem_cons_succ, List.setIfInBounds_toArray, List.set_cons_zero, List.set_cons_succ]
                  refine AnyM.take (i := 12) (v := ?_) rfl (by kernel_rfl) (by kernel_rfl) (by kernel_rfl) (by kernel_rfl) (fun _ _ _ h => h) (Or.inl ⟨by rfl, ?_⟩) (by assumption) ?_
                  rotate_left 1
                  · (intro w hSw; obtain ⟨hk1, hk2⟩ := hSw; go_simp <;> with_reducible rfl)
                  simp only [Act.put, List.getElem_toArray, List.getElem_cons_zero, List.getElem_cons_succ, List.setIfInBounds_toArray, List.set_cons_zero, List.set_cons_succ]
                  refine AnyM.take (i := 13) (v := ?_) rfl (by kernel_rfl) (by kernel_rfl) (by kernel_rfl) (by kernel_rfl) (fun _ _ _ h => h) (Or.inl ⟨by rfl, ?_⟩) (by assumption) ?_
                  rotate_left 1
                  · (intro w hSw; obtain ⟨hk1, hk2⟩ := hSw; go_simp <;> with_reducible rfl)
                  simp only [Act.put, List.getElem_toArray, List.getElem_cons_zero, List.getElem_cons_succ, List.setIfInBounds_toArray, List.set_cons_zero, List.set_cons_succ]
                  refine AnyM.takeAny (i := 14) (v := ?_) rfl (by kernel_rfl) (by kernel_rfl) (by kernel_rfl) (by kernel_rfl) (fun _ _ _ h => h) (Or.inl ⟨by rfl, ?_⟩) (fun h => by first | assumption | exact Bool.noConfusion (h.symm.trans (by kernel_rfl : _ = true))) ?_
                  rotate_left 1
                  · (intro w _; go_simp <;> with_reducible rfl)
                  simp only [Act.put, List.getElem_toArray, List.getElem_cons_zero, List.getElem_cons_succ, List.setIfInBounds_toArray, List.set_cons_zero, List.set_cons_succ]
                  refine AnyM.take (i := 15) (v := ?_) rfl (by kernel_rfl) (by kernel_rfl) (by kernel_rfl) (by kernel_rfl) (fun _ _ _ h => h) (Or.inl ⟨by rfl, ?_⟩) (by assumption) ?_
                  rotate_left 1
                  · (intro w hSw; obtain ⟨hk1, hk2⟩ := hSw; go_simp <;> with_reducible rfl)
                  simp only [Act.put, List.getElem_toArray, List.getElem_cons_zero, List.getElem_cons_succ, List.setIfInBounds_toArray, List.set_cons_zero, List.set_cons_succ]
                  refine AnyM.next [16] (by kernel_rfl) (by simp) ?_
                  refine NextM.cons rfl (fun K hK => ?_) NextM.nil
                  go_simp
                  refine hK _ _ (fun h => by simp at h) ?_
                  clear hK K
                  refine AnyM.done (by kernel_rfl) ?_ _
                  obtain ⟨w9, hW9⟩ : ∃ W, (w8.setCell ⟨rg, j * 2 + 1, none⟩ (.int .i64 (t1 + th))).drew = W := ⟨_, rfl⟩
                  have hX9 : Blk w9 p 24 [.int .i64 base, .slice A l.length c] := by rw [← hW9]; exact Blk.drewN (hX8.far (by show p ≠ rg; omega) _) 1
                  have hC9 : Blk w9 (p + 1) 67 [.int .i64 fq, .int .i64 (j : Nat), .int .i64 th, .int .i64 sq, .int .i64 bs] := by rw [← hW9]; exact Blk.drewN (hC8.far (by show p + 1 ≠ rg; omega) _) 1
                  have hV9 : Blk w9 v 54 [.int .i64 v1, .int .i64 v2] := by rw [← hW9]; exact Blk.drewN (hV8.far (by show v ≠ rg; omega) _) 1
                  have hM9 : Blk w9 bm 24 [.int .i64 (base + bs), .slice (some ⟨rg, 0, none⟩) l.length rc] := by rw [← hW9]; exact Blk.drewN (hM8.far (by show bm ≠ rg; omega) _) 1
                  have hown9 : w9.ownsRow w5.heap.size 69 2 (.slice (some ⟨rg, 0, none⟩) l.length rc) l.length (gs (l.set j (s1, t1 + th))) := by rw [← hW9, ← HGS1.out]; exact (hown8.stored (j * 2 + 1) _).1.drew
                  have HB9 : Below p w w9 := by rw [← hW9]; exact (HB8.setCell (by show p ≤ rg; omega) _).drew
                  rw [hW9]
                  clear hW9 y0 y1 y2 hSd
                  clear k8_0 k8_1 zk8 x8_0 x8_1 x8_2 x8_3 x8_4 zx8 v8_0 v8_1 zv8 m8_0 m8_1 zm8 hX8 hC8 hV8 hM8 hown8 HB8
                  have k9_0 := hX9.cell 0; have k9_1 := hX9.cell 1; simp only [List.getElem?_cons_zero, List.getElem?_cons_succ] at k9_0 k9_1
                  have zk9 := hX9.lt
                  have x9_0 := hC9.cell 0; have x9_1 := hC9.cell 1; have x9_2 := hC9.cell 2; have x9_3 := hC9.cell 3; have x9_4 := hC9.cell 4; simp only [List.getElem?_cons_zero, List.getElem?_cons_succ] at x9_0 x9_1 x9_2 x9_3 x9_4
                  have zx9 := hC9.lt
                  have v9_0 := hV9.cell 0; have v9_1 := hV9.cell 1; simp only [List.getElem?_cons_zero, List.getElem?_cons_succ] at v9_0 v9_1
                  have zv9 := hV9.lt
                  have m9_0 := hM9.cell 0; have m9_1 := hM9.cell 1; simp only [List.getElem?_cons_zero, List.getElem?_cons_succ] at m9_0 m9_1
                  have zm9 := hM9.lt
                  by_cases g5 : j < P
                  · have HF5 : Hid (turned l fq j th sq = (min (s1 + sq) (fq * fq - 1), t1 + th)) := by show _ = _; rw [HT.out, if_pos g5]
                    have y0 := (hown9.cellAt (j * 2) (by omega)).trans (HGK.out s1 (t1 + th))
                    have y1 := hown9.frozenAt (j * 2)
                    have y2 : rg < w9.heap.size := by omega
                    have u4 : IntKind.i64.wrap (fq * fq) = fq * fq := by simp (disch := omega) only [IntWalk.i64_in]
                    have u6 : IntKind.i64.wrap (fq * fq - 1) = fq * fq - 1 := by simp (disch := omega) only [IntWalk.i64_in]
                    go_upto_region 15 with fail
                    refine wp_region_M (fun w' => (∀ b o, b < w9.heap.size → w'.cell? ⟨b, o, none⟩ = w9.cell? ⟨b, o, none⟩) ∧ Below w9.heap.size w9 w') 23 (by kernel_rfl) ?_
                    have hSd : (∀ b o, b < w9.heap.size → w9.drew.cell? ⟨b, o, none⟩ = w9.cell? ⟨b, o, none⟩) ∧ Below w9.heap.size w9 w9.drew := kp (Below.refl _ _).drew
                    refine AnyM.take (i := 0) (v := ?_) rfl (by kernel_rfl) (by kernel_rfl) (by kernel_rfl) (by kernel_rfl) (fun _ _ _ h => h) (Or.inl ⟨by rfl, ?_⟩) (by assumption) ?_
                    rotate_left 1
                    · (intro w hSw; obtain ⟨hk1, hk2⟩ := hSw; go_simp <;> with_reducible rfl)
                    simp only [Act.put, List.getElem_toArray, List.getElem_cons_zero, List.setIfInBounds_toArray, List.set_cons_zero, List.set_cons_succ]
                    refine AnyM.take (i := 1) (v := ?_) rfl (by kernel_rfl) (by kernel_rfl) (by kernel_rfl) (by kernel_rfl) (fun _ _ _ h => h) (Or.inl ⟨by rfl, ?_⟩) (by assumption) ?_
                    rotate_left 1
                    · (intro w hSw; obtain ⟨hk1, hk2⟩ := hSw; go_simp <;> with_reducible rfl)
                    simp only [Act.put, List.getElem_toArray, List.getElem_cons_zero, List.getElem_cons_succ, List.setIfInBounds_toArray, List.set_cons_zero, List.set_cons_succ]
                    refine AnyM.take (i := 2) (v := ?_) rfl (by kernel_rfl) (by kernel_rfl) (by kernel_rfl) (by kernel_rfl) (fun _ _ _ h => h) (Or.inl ⟨by rfl, ?_⟩) (by assumption) ?_
                    rotate_left 1
                    · (intro w hSw; obtain ⟨hk1, hk2⟩ := hSw; go_simp <;> with_reducible rfl)
                    simp only [Act.put, List.getElem_toArray, List.getElem_cons_zero, List.getElem_cons_succ, List.setIfInBounds_toArray, List.set_cons_zero, List.set_cons_succ]
                    refine AnyM.take (i := 3) (v := ?_) rfl (by kernel_rfl) (by kernel_rfl) (by kernel_rfl) (by kernel_rfl) (fun _ _ _ h => h) (Or.inl ⟨by rfl, ?_⟩) (by assumption) ?_
                    rotate_left 1
                    · (intro w hSw; obtain ⟨hk1, hk2⟩ := hSw; go_simp <;> with_reducible rfl)
                    simp only [Act.put, List.getElem_toArray, List.getElem_cons_zero, List.getElem_cons_succ, List.setIfInBounds_toArray, List.set_cons_zero, List.set_cons_succ]
                    refine AnyM.take (i := 4) (v := ?_) rfl (by kernel_rfl) (by kernel_rfl) (by kernel_rfl) (by kernel_rfl) (fun _ _ _ h => h) (Or.inl ⟨by rfl, ?_⟩) (by assumption) ?_
                    rotate_left 1
                    · (intro w hSw; obtain ⟨hk1, hk2⟩ := hSw; go_simp <;> with_reducible rfl)
                    simp only [Act.put, List.getElem_toArray, List.getElem_cons_zero, List.getElem_cons_succ, List.setIfInBounds_toArray, List.set_cons_zero, List.set_cons_succ]
                    refine AnyM.take (i := 5) (v := ?_) rfl (by kernel_rfl) (by kernel_rfl) (by kernel_rfl) (by kernel_rfl) (fun _ _ _ h => h) (Or.inl ⟨by rfl, ?_⟩) (by assumption) ?_
                    rotate_left 1
                    · (intro w hSw; obtain ⟨hk1, hk2⟩ := hSw; go_simp <;> with_reducible rfl)
                    simp only [Act.put, List.getElem_toArray, List.getElem_cons_zero, List.getElem_cons_succ, List.setIfInBounds_toArray, List.set_cons_zero, List.set_cons_succ]
                    refine AnyM.take (i := 6) (v := ?_) rfl (by kernel_rfl) (by kernel_rfl) (by kernel_rfl) (by kernel_rfl) (fun _ _ _ h => h) (Or.inl ⟨by rfl, ?_⟩) (by assumption) ?_
                    rotate_left 1
                    · (intro w hSw; obtain ⟨hk1, hk2⟩ := hSw; go_simp <;> with_reducible rfl)
                    simp only [Act.put, List.getElem_toArray, List.getElem_cons_zero, List.getElem_cons_succ, List.setIfInBounds_toArray, List.set_cons_zero, List.set_cons_succ]
                    refine AnyM.take (i := 7) (v := ?_) rfl (by kernel_rfl) (by kernel_rfl) (by kernel_rfl) (by kernel_rfl) (fun _ _ _ h => h) (Or.inl ⟨by rfl, ?_⟩) (by assumption) ?_
                    rotate_left 1
                    · (intro w hSw; obtain ⟨hk1, hk2⟩ := hSw; go_simp <;> with_reducible rfl)
                    simp only [Act.put, List.getElem_toArray, List.getElem_cons_zero, List.getElem_cons_succ, List.setIfInBounds_toArray, List.set_cons_zero, List.set_cons_succ]
                    refine AnyM.take (i := 8) (v := ?_) rfl (by kernel_rfl) (by kernel_rfl) (by kernel_rfl) (by kernel_rfl) (fun _ _ _ h => h) (Or.inl ⟨by rfl, ?_⟩) (by assumption) ?_
                    rotate_left 1
                    · (intro w hSw; obtain ⟨hk1, hk2⟩ := hSw; go_simp <;> with_reducible rfl)
                    simp only [Act.put, List.getElem_toArray, List.getElem_cons_zero, List.getElem_cons_succ, List.setIfInBounds_toArray, List.set_cons_zero, List.set_cons_succ]
                    refine AnyM.take (i := 9) (v := ?_) rfl (by kernel_rfl) (by kernel_rfl) (by kernel_rfl) (by kernel_rfl) (fun _ _ _ h => h) (Or.inl ⟨by rfl, ?_⟩) (by assumption) ?_
                    rotate_left 1
                    · (intro w hSw; obtain ⟨hk1, hk2⟩ := hSw; go_simp <;> with_reducible rfl)
                    simp only [Act.put, List.getElem_toArray, List.getElem_cons_zero, List.getElem_cons_succ, List.setIfInBounds_toArray, List.set_cons_zero, List.set_cons_succ]
                    refine AnyM.take (i := 10) (v := ?_) rfl (by kernel_rfl) (by kernel_rfl) (by kernel_rfl) (by kernel_rfl) (fun _ _ _ h => h) (Or.inl ⟨by rfl, ?_⟩) (by assumption) ?_
                    rotate_left 1
                    · (intro w hSw; obtain ⟨hk1, hk2⟩ := hSw; go_simp <;> with_reducible rfl)
                    simp only [Act.put, List.getElem_toArray, List.getElem_cons_zero, List.getElem_cons_succ, List.setIfInBounds_toArray, List.set_cons_zero, List.set_cons_succ]
                    refine AnyM.take (i := 11) (v := ?_) rfl (by kernel_rfl) (by kernel_rfl) (by kernel_rfl) (by kernel_rfl) (fun _ _ _ h => h) (Or.inl ⟨by rfl, ?_⟩) (by assumption) ?_
                    rotate_left 1
                    · (intro w hSw; obtain ⟨hk1, hk2⟩ := hSw; go_simp <;> with_reducible rfl)
                    simp only [Act.put, List.getElem_toArray, List.getElem_cons_zero, List.getElem_cons_succ, List.setIfInBounds_toArray, List.set_cons_zero, List.set_cons_succ]
                    refine AnyM.take (i := 12) (v := ?_) rfl (by kernel_rfl) (by kernel_rfl) (by kernel_rfl) (by kernel_rfl) (fun _ _ _ h => h) (Or.inl ⟨by rfl, ?_⟩) (by assumption) ?_
                    rotate_left 1
                    · (intro w hSw; obtain ⟨hk1, hk2⟩ := hSw; go_simp <;> with_reducible rfl)
                    simp only [Act.put, List.getElem_toArray, List.getElem_cons_zero, List.getElem_cons_succ, List.setIfInBounds_toArray, List.set_cons_zero, List.set_cons_succ]
                    refine AnyM.take (i := 13) (v := ?_) rfl (by kernel_rfl) (by kernel_rfl) (by kernel_rfl) (by kernel_rfl) (fun _ _ _ h => h) (Or.inl ⟨by rfl, ?_⟩) (by assumption) ?_
                    rotate_left 1
                    · (intro w hSw; obtain ⟨hk1, hk2⟩ := hSw; go_simp <;> with_reducible rfl)
                    simp only [Act.put, List.getElem_toArray, List.getElem_cons_zero, List.getElem_cons_succ, List.setIfInBounds_toArray, List.set_cons_zero, List.set_cons_succ]
                    refine AnyM.take (i := 14) (v := ?_) rfl (by kernel_rfl) (by kernel_rfl) (by kernel_rfl) (by kernel_rfl) (fun _ _ _ h => h) (Or.inl ⟨by rfl, ?_⟩) (by assumption) ?_
                    rotate_left 1
                    · (intro w hSw; obtain ⟨hk1, hk2⟩ := hSw; go_simp <;> with_reducible rfl)
                    simp only [Act.put, List.getElem_toArray, List.getElem_cons_zero, List.getElem_cons_succ, List.setIfInBounds_toArray, List.set_cons_zero, List.set_cons_succ]
                    refine AnyM.take (i := 15) (v := ?_) rfl (by kernel_rfl) (by kernel_rfl) (by kernel_rfl) (by kernel_rfl) (fun _ _ _ h => h) (Or.inl ⟨by rfl, ?_⟩) (by assumption) ?_
                    rotate_left 1
                    · (intro w hSw; obtain ⟨hk1, hk2⟩ := hSw; go_simp <;> with_reducible rfl)
                    simp only [Act.put, List.getElem_toArray, List.getElem_cons_zero, List.getElem_cons_succ, List.setIfInBounds_toArray, List.set_cons_zero, List.set_cons_succ]
                    refine AnyM.take (i := 16) (v := ?_) rfl (by kernel_rfl) (by kernel_rfl) (by kernel_rfl) (by kernel_rfl) (fun _ _ _ h => h) (Or.inl ⟨by rfl, ?_⟩) (by assumption) ?_
                    rotate_left 1
                    · (intro w hSw; obtain ⟨hk1, hk2⟩ := hSw; go_simp <;> with_reducible rfl)
                    simp only [Act.put, List.getElem_toArray, List.getElem_cons_zero, List.getElem_cons_succ, List.setIfInBounds_toArray, List.set_cons_zero, List.set_cons_succ]
                    refine AnyM.take (i := 17) (v := ?_) rfl (by kernel_rfl) (by kernel_rfl) (by kernel_rfl) (by kernel_rfl) (fun _ _ _ h => h) (Or.inl ⟨by rfl, ?_⟩) (by assumption) ?_
                    rotate_left 1
                    · (intro w hSw; obtain ⟨hk1, hk2⟩ := hSw; go_simp <;> with_reducible rfl)
                    simp only [Act.put, List.getElem_toArray, List.getElem_cons_zero, List.getElem_cons_succ, List.setIfInBounds_toArray, List.set_cons_zero, List.set_cons_succ]
                    refine AnyM.take (i := 18) (v := ?_) rfl (by kernel_rfl) (by kernel_rfl) (by kernel_rfl) (by kernel_rfl) (fun _ _ _ h => h) (Or.inl ⟨by rfl, ?_⟩) (by assumption) ?_
                    rotate_left 1
                    · (intro w hSw; obtain ⟨hk1, hk2⟩ := hSw; go_simp <;> with_reducible rfl)
                    simp only [Act.put, List.getElem_toArray, List.getElem_cons_zero, List.getElem_cons_succ, List.setIfInBounds_toArray, List.set_cons_zero, List.set_cons_succ]
                    refine AnyM.take (i := 19) (v := ?_) rfl (by kernel_rfl) (by kernel_rfl) (by kernel_rfl) (by kernel_rfl) (fun _ _ _ h => h) (Or.inl ⟨by rfl, ?_⟩) (by assumption) ?_
                    rotate_left 1
                    · (intro w hSw; obtain ⟨hk1, hk2⟩ := hSw; go_simp <;> with_reducible rfl)
                    simp only [Act.put, List.getElem_toArray, List.getElem_cons_zero, List.getElem_cons_succ, List.setIfInBounds_toArray, List.set_cons_zero, List.set_cons_succ]
                    refine AnyM.take (i := 20) (v := ?_) rfl (by kernel_rfl) (by kernel_rfl) (by kernel_rfl) (by kernel_rfl) (fun _ _ _ h => h) (Or.inl ⟨by rfl, ?_⟩) (by assumption) ?_
                    rotate_left 1
                    · (intro w hSw; obtain ⟨hk1, hk2⟩ := hSw; go_simp <;> with_reducible rfl)
                    simp only [Act.put, List.getElem_toArray, List.getElem_cons_zero, List.getElem_cons_succ, List.setIfInBounds_toArray, List.set_cons_zero, List.set_cons_succ]
                    refine AnyM.takeAny (i := 21) (v := ?_) rfl (by kernel_rfl) (by kernel_rfl) (by kernel_rfl) (by kernel_rfl) (fun _ _ _ h => h) (Or.inl ⟨by rfl, ?_⟩) (fun h => by first | assumption | exact Bool.noConfusion (h.symm.trans (by kernel_rfl : _ = true))) ?_
                    rotate_left 1
                    · (intro w _; go_simp <;> with_reducible rfl)
                    simp only [Act.put, List.getElem_toArray, List.getElem_cons_zero, List.getElem_cons_succ, List.setIfInBounds_toArray, List.set_cons_zero, List.set_cons_succ]
                    refine AnyM.take (i := 22) (v := ?_) rfl (by kernel_rfl) (by kernel_rfl) (by kernel_rfl) (by kernel_rfl) (fun _ _ _ h => h) (Or.inl ⟨by rfl, ?_⟩) (by assumption) ?_
                    rotate_left 1
                    · (intro w hSw; obtain ⟨hk1, hk2⟩ := hSw; go_simp <;> with_reducible rfl)
                    simp only [Act.put, List.getElem_toArray, List.getElem_cons_zero, List.getElem_cons_succ, List.setIfInBounds_toArray, List.set_cons_zero, List.set_cons_succ]
                    refine AnyM.next [23] (by kernel_rfl) (by simp) ?_
                    refine NextM.cons rfl (fun K hK => ?_) NextM.nil
                    go_simp
                    refine hK _ _ (fun h => by simp at h) ?_
                    clear hK K
                    refine AnyM.done (by kernel_rfl) ?_ _
                    obtain ⟨w10, hW10⟩ : ∃ W, (w9.setCell ⟨rg, j * 2, none⟩ (.int .i64 (if fq * fq - 1 < s1 + sq then fq * fq - 1 else s1 + sq))).drew = W := ⟨_, rfl⟩
                    have hX10 : Blk w10 p 24 [.int .i64 base, .slice A l.length c] := by rw [← hW10]; exact Blk.drewN (hX9.far (by show p ≠ rg; omega) _) 1
                    have hC10 : Blk w10 (p + 1) 67 [.int .i64 fq, .int .i64 (j : Nat), .int .i64 th, .int .i64 sq, .int .i64 bs] := by rw [← hW10]; exact Blk.drewN (hC9.far (by show p + 1 ≠ rg; omega) _) 1
                    have hV10 : Blk w10 v 54 [.int .i64 v1, .int .i64 v2] := by rw [← hW10]; exact Blk.drewN (hV9.far (by show v ≠ rg; omega) _) 1
                    have hM10 : Blk w10 bm 24 [.int .i64 (base + bs), .slice (some ⟨rg, 0, none⟩) l.length rc] := by rw [← hW10]; exact Blk.drewN (hM9.far (by show bm ≠ rg; omega) _) 1
                    have emn : (if fq * fq - 1 < s1 + sq then fq * fq - 1 else s1 + sq) = min (s1 + sq) (fq * fq - 1) := by rw [Int.min_def]; split <;> split <;> omega
                    have hown10 : w10.ownsRow w5.heap.size 69 2 (.slice (some ⟨rg, 0, none⟩) l.length rc) l.length (gs NL) := by rw [← hW10, ← HNL.out, HF5.out, ← HGS0.out s1, emn]; exact (hown9.stored (j * 2) _).1.drew
                    have HB10 : Below p w w10 := by rw [← hW10]; exact (HB9.setCell (by show p ≤ rg; omega) _).drew
                    rw [hW10]
                    clear hW10 y0 y1 y2 hSd emn HF5
                    generalize (if fq * fq - 1 < s1 + sq then fq * fq - 1 else s1 + sq) = MN
                    clear k9_0 k9_1 zk9 x9_0 x9_1 x9_2 x9_3 x9_4 zx9 v9_0 v9_1 zv9 m9_0 m9_1 zm9 hX9 hC9 hV9 hM9 hown9 HB9
                    have k10_0 := hX10.cell 0; have k10_1 := hX10.cell 1; simp only [List.getElem?_cons_zero, List.getElem?_cons_succ] at k10_0 k10_1
                    have zk10 := hX10.lt
                    have x10_0 := hC10.cell 0; have x10_1 := hC10.cell 1; have x10_2 := hC10.cell 2; have x10_3 := hC10.cell 3; have x10_4 := hC10.cell 4; simp only [List.getElem?_cons_zero, List.getElem?_cons_succ] at x10_0 x10_1 x10_2 x10_3 x10_4
                    have zx10 := hC10.lt
                    have v10_0 := hV10.cell 0; have v10_1 := hV10.cell 1; simp only [List.getElem?_cons_zero, List.getElem?_cons_succ] at v10_0 v10_1
                    have zv10 := hV10.lt
                    have m10_0 := hM10.cell 0; have m10_1 := hM10.cell 1; simp only [List.getElem?_cons_zero, List.getElem?_cons_succ] at m10_0 m10_1
                    have zm10 := hM10.lt
                    have hrN10 : Rd w10 (some ⟨rg, 0, none⟩) (gs NL) := Rd.of_own hown10
                    have hr10 := hr.below HB10 (by omega)
                    clear g5 hown10
                    by_cases g4 : (proE (base + bs) NL).2 = 0
                    · have HV2 := hide (fun A c W h => HVM.out A c W h (proE_zero g4))
                      rw [g4] at HEM
                      clear g4 HVM
                      go_upto_region 18 with (first | (go_at_call 30; refine (HEM.out _ _ _ hrN10).mono ?_; rintro e_ w11 ⟨rfl, hb11⟩))
                      have hX11 := hX10.bel hb11
                      have hC11 := hC10.bel hb11
                      have hV11 := hV10.bel hb11
                      have hM11 := hM10.bel hb11
                      have hr11 := hr10.bel hb11
                      have hrN11 := hrN10.bel hb11
                      have HB11 := bel_tr HB10 (by have := HB10.size; omega) hb11
                      clear k10_0 k10_1 zk10 hX10 x10_0 x10_1 x10_2 x10_3 x10_4 zx10 hC10 v10_0 v10_1 zv10 hV10 m10_0 m10_1 zm10 hM10 hr10 hrN10
                      have k11_0 := hX11.cell 0; have k11_1 := hX11.cell 1; simp only [List.getElem?_cons_zero, List.getElem?_cons_succ] at k11_0 k11_1
                      have zk11 := hX11.lt
                      have x11_0 := hC11.cell 0; have x11_1 := hC11.cell 1; have x11_2 := hC11.cell 2; have x11_3 := hC11.cell 3; have x11_4 := hC11.cell 4; simp only [List.getElem?_cons_zero, List.getElem?_cons_succ] at x11_0 x11_1 x11_2 x11_3 x11_4
                      have zx11 := hC11.lt
                      have v11_0 := hV11.cell 0; have v11_1 := hV11.cell 1; simp only [List.getElem?_cons_zero, List.getElem?_cons_succ] at v11_0 v11_1
                      have zv11 := hV11.lt
                      have m11_0 := hM11.cell 0; have m11_1 := hM11.cell 1; simp only [List.getElem?_cons_zero, List.getElem?_cons_succ] at m11_0 m11_1
                      have zm11 := hM11.lt
                      go_cut [11, 12] from 155 to 162 (fun t u wx => ∃ g : Nat, t = .pointer (some ⟨g, 0, none⟩) ∧ u = .int .i64 0 ∧ Blk wx g 54 [.int .i64 m1, .int .i64 m2] ∧ w11.heap.size ≤ g ∧ Below w11.heap.size w11 wx)
                      case first =>
                        go_region_held3 (fun w' => (∀ b o, b < w11.heap.size → w'.cell? ⟨b, o, none⟩ = w11.cell? ⟨b, o, none⟩) ∧ Below w11.heap.size w11 w')
                          ((refine kp ?_; (repeat' (first | with_reducible exact Below.refl _ _ | with_reducible exact HC2.out | with_reducible exact HC1.out | with_reducible refine Below.drew ?_ | with_reducible refine bel_alloc ?_ ?_ _ | with_reducible refine Below.setCell ?_ ?_ _)); all_goals (first | omega | (simp <;> omega))))
                          (first
                            | (go_at_call 18; refine (HCN.out (some ⟨rg, 0, none⟩) rc _ ?_).mono ?_; exact hrN11.bel (by (repeat' (first | with_reducible exact Below.refl _ _ | with_reducible exact HC2.out | with_reducible exact HC1.out | with_reducible refine Below.drew ?_ | with_reducible refine bel_alloc ?_ ?_ _ | with_reducible refine Below.setCell ?_ ?_ _)); all_goals (first | omega | (simp <;> omega))); rintro e_ wA ⟨⟨A4, q4, rfl, hra⟩, hbA⟩; have HC1 : Hid (Below w11.heap.size w11 wA) := (by refine hide (Below.trans ?_ (hbA.mono ?_)); (repeat' (first | with_reducible exact Below.refl _ _ | with_reducible exact HC2.out | with_reducible exact HC1.out | with_reducible refine Below.drew ?_ | with_reducible refine bel_alloc ?_ ?_ _ | with_reducible refine Below.setCell ?_ ?_ _)); all_goals (first | omega | (simp <;> omega))); have sC1 := HC1.out.size; have hA1 := hbA.size; (try (refine (have BA : Blk wA w11.heap.size 54 [.int .i64 0, .int .i64 0] := ?_; ?_); (focus (refine Blk.bel ?_ hbA; first | exact Blk.new w11 _ [_, _] | exact Blk.new w11.drew _ [_, _]; done)); have BAc0 := BA.cell 0; have BAc1 := BA.cell 1; have BAf0 := BA.frozen 0; have BAf1 := BA.frozen 1; have BAl := BA.lt; simp only [List.getElem?_cons_zero, List.getElem?_cons_succ] at BAc0 BAc1)))
                            | (go_at_call 43; refine (HV2.out A4 q4 _ (by first | exact hra | exact hra.drew | exact hra.alloc _ | exact hra.bel (by (repeat' (first | with_reducible exact Below.refl _ _ | with_reducible exact HC2.out | with_reducible exact HC1.out | with_reducible refine Below.drew ?_ | with_reducible refine bel_alloc ?_ ?_ _ | with_reducible refine Below.setCell ?_ ?_ _)); all_goals (first | omega | (simp <;> omega))))).mono ?_; rintro e_ wB ⟨rfl, hbB⟩; have HC2 : Hid (Below w11.heap.size w11 wB) := (by refine hide (Below.trans ?_ (hbB.mono ?_)); (repeat' (first | with_reducible exact Below.refl _ _ | with_reducible exact HC2.out | with_reducible exact HC1.out | with_reducible refine Below.drew ?_ | with_reducible refine bel_alloc ?_ ?_ _ | with_reducible refine Below.setCell ?_ ?_ _)); all_goals (first | omega | (simp <;> omega))); have sC2 := HC2.out.size; have hB1 := hbB.size; (try (refine (have BB : Blk wB w11.heap.size 54 [.int .i64 0, .int .i64 0] := ?_; ?_); (focus (refine Blk.bel ?_ hbB; exact BA; done)); have BBc0 := BB.cell 0; have BBc1 := BB.cell 1; have BBf0 := BB.frozen 0; have BBf1 := BB.frozen 1; have BBl := BB.lt; simp only [List.getElem?_cons_zero, List.getElem?_cons_succ] at BBc0 BBc1)); (try (refine (have BC : Blk wB wA.heap.size 54 [.int .i64 0, .int .i64 0] := ?_; ?_); (focus (refine Blk.bel ?_ hbB; first | exact Blk.new wA _ [_, _] | exact Blk.new wA.drew _ [_, _]; done)); have BCc0 := BC.cell 0; have BCc1 := BC.cell 1; have BCf0 := BC.frozen 0; have BCf1 := BC.frozen 1; have BCl := BC.lt; simp only [List.getElem?_cons_zero, List.getElem?_cons_succ] at BCc0 BCc1))))
                        all_goals go_wp2
                        all_goals go_meet
                        all_goals refine ⟨_, rfl, rfl, (by first | exact (BB.set_ 0 _).set_ 1 _ | exact (BC.set_ 0 _).set_ 1 _ | exact Blk.new _ _ [_, _] | exact ((Blk.new _ _ [_, _]).set_ 0 _).set_ 1 _), (by first | exact Nat.le_refl _ | omega | (simp [World.setCell]; omega)), ?_⟩
                        all_goals (repeat' (first | with_reducible exact HC2.out | with_reducible refine bel_alloc ?_ ?_ _ | with_reducible refine Below.setCell ?_ ?_ _))
                        all_goals first | omega | (simp <;> omega)
                      obtain ⟨u, rfl, rfl, hU12, hzu, hb12⟩ := hcut
                      obtain ⟨w12, rfl⟩ : ∃ x : World, x = wc := ⟨_, rfl⟩
                      have hX12 := hX11.bel hb12
                      have hC12 := hC11.bel hb12
                      have hV12 := hV11.bel hb12
                      have hM12 := hM11.bel hb12
                      have hr12 := hr11.bel hb12
                      have HB12 := bel_tr HB11 (by have := HB11.size; omega) hb12
                      clear k11_0 k11_1 zk11 hX11 x11_0 x11_1 x11_2 x11_3 x11_4 zx11 hC11 v11_0 v11_1 zv11 hV11 m11_0 m11_1 zm11 hM11 hr11 
                      have k12_0 := hX12.cell 0; have k12_1 := hX12.cell 1; simp only [List.getElem?_cons_zero, List.getElem?_cons_succ] at k12_0 k12_1
                      have zk12 := hX12.lt
                      have x12_0 := hC12.cell 0; have x12_1 := hC12.cell 1; have x12_2 := hC12.cell 2; have x12_3 := hC12.cell 3; have x12_4 := hC12.cell 4; simp only [List.getElem?_cons_zero, List.getElem?_cons_succ] at x12_0 x12_1 x12_2 x12_3 x12_4
                      have zx12 := hC12.lt
                      have v12_0 := hV12.cell 0; have v12_1 := hV12.cell 1; simp only [List.getElem?_cons_zero, List.getElem?_cons_succ] at v12_0 v12_1
                      have zv12 := hV12.lt
                      have m12_0 := hM12.cell 0; have m12_1 := hM12.cell 1; simp only [List.getElem?_cons_zero, List.getElem?_cons_succ] at m12_0 m12_1
                      have zm12 := hM12.lt
                      have u12_0 := hU12.cell 0; have u12_1 := hU12.cell 1; simp only [List.getElem?_cons_zero, List.getElem?_cons_succ] at u12_0 u12_1
                      have zu12 := hU12.lt
                      go_upto_region 21 with fail
                      by_cases g6 : fq = 3000
                      · have e6 : (fq == 3000) = true := by simpa using g6
                        clear g6
                        go_wp2
                        go_ret
                        exact ⟨rfl, by rw [hp]; exact HB12⟩
                      · have e6 : (fq == 3000) = false := by simpa using g6
                        by_cases g7 : passN l (fq + 1) = l.length
                        · rw [HR2.out g6 g7] at HR1
                          dsimp only at HR1
                          clear g6 g7 HR2 HR3 HHI
                          go_upto_region 23 with fail
                          go_cut [13, 14, 15] from 182 to 191 (fun t u v wx => t = .int .i64 0 ∧ u = .int .i64 0 ∧ v = .int .i64 21 ∧ Below w12.heap.size w12 wx)
                          case first =>
                            go_region_held3 (fun w' => (∀ b o, b < w12.heap.size → w'.cell? ⟨b, o, none⟩ = w12.cell? ⟨b, o, none⟩) ∧ Below w12.heap.size w12 w')
                              ((refine kp ?_; (repeat' (first | with_reducible exact Below.refl _ _ | with_reducible exact HC2.out | with_reducible exact HC1.out | with_reducible refine Below.drew ?_ | with_reducible refine bel_alloc ?_ ?_ _ | with_reducible refine Below.setCell ?_ ?_ _)); all_goals (first | omega | (simp <;> omega))))
                              (first
                                | (go_at_call 18; refine (copy_c base A c l _ ?_ hl).mono ?_; exact hr12.bel (by (repeat' (first | with_reducible exact Below.refl _ _ | with_reducible exact HC2.out | with_reducible exact HC1.out | with_reducible refine Below.drew ?_ | with_reducible refine bel_alloc ?_ ?_ _ | with_reducible refine Below.setCell ?_ ?_ _)); all_goals (first | omega | (simp <;> omega))); rintro e_ wA ⟨⟨A4, q4, rfl, hra⟩, hbA⟩; have HC1 : Hid (Below w12.heap.size w12 wA) := (by refine hide (Below.trans ?_ (hbA.mono ?_)); (repeat' (first | with_reducible exact Below.refl _ _ | with_reducible exact HC2.out | with_reducible exact HC1.out | with_reducible refine Below.drew ?_ | with_reducible refine bel_alloc ?_ ?_ _ | with_reducible refine Below.setCell ?_ ?_ _)); all_goals (first | omega | (simp <;> omega))); have sC1 := HC1.out.size)
                                | (go_at_call 42; refine (HR1.out A4 q4 _ (by first | exact hra | exact hra.drew)).mono ?_; rintro e_ wB ⟨rfl, hbB⟩; have HC2 : Hid (Below w12.heap.size w12 wB) := (by refine hide (Below.trans ?_ (hbB.mono ?_)); (repeat' (first | with_reducible exact Below.refl _ _ | with_reducible exact HC2.out | with_reducible exact HC1.out | with_reducible refine Below.drew ?_ | with_reducible refine bel_alloc ?_ ?_ _ | with_reducible refine Below.setCell ?_ ?_ _)); all_goals (first | omega | (simp <;> omega))); have sC2 := HC2.out.size))
                            all_goals (
                              go_wp2
                              go_meet
                              exact ⟨rfl, rfl, rfl, HC2.out⟩)
                          obtain ⟨rfl, rfl, rfl, hb13⟩ := hcut
                          obtain ⟨w13, rfl⟩ : ∃ x : World, x = wc := ⟨_, rfl⟩
                          have HB13 := bel_tr HB12 (by have := HB12.size; omega) hb13
                          go_wp2
                          go_ret
                          exact ⟨rfl, by rw [hp]; exact HB13⟩
                        · rw [HR3.out g6 g7] at HR1
                          dsimp only at HR1
                          have hhi := HHI.out
                          clear g6 g7 HR2 HR3 HHI
                          generalize hgt base l (passN l (fq + 1)) = H2 at HR1 hhi
                          generalize passN l (fq + 1) = I2 at HR1
                          have e8 : decide (HN ≤ H2) = true := decide_eq_true hhi
                          go_upto_region 23 with fail
                          go_cut [13, 14, 15] from 182 to 191 (fun t u v wx => t = .int .i64 H2 ∧ u = .int .i64 I2 ∧ v = .int .i64 0 ∧ Below w12.heap.size w12 wx)
                          case first =>
                            go_region_held3 (fun w' => (∀ b o, b < w12.heap.size → w'.cell? ⟨b, o, none⟩ = w12.cell? ⟨b, o, none⟩) ∧ Below w12.heap.size w12 w')
                              ((refine kp ?_; (repeat' (first | with_reducible exact Below.refl _ _ | with_reducible exact HC2.out | with_reducible exact HC1.out | with_reducible refine Below.drew ?_ | with_reducible refine bel_alloc ?_ ?_ _ | with_reducible refine Below.setCell ?_ ?_ _)); all_goals (first | omega | (simp <;> omega))))
                              (first
                                | (go_at_call 18; refine (copy_c base A c l _ ?_ hl).mono ?_; exact hr12.bel (by (repeat' (first | with_reducible exact Below.refl _ _ | with_reducible exact HC2.out | with_reducible exact HC1.out | with_reducible refine Below.drew ?_ | with_reducible refine bel_alloc ?_ ?_ _ | with_reducible refine Below.setCell ?_ ?_ _)); all_goals (first | omega | (simp <;> omega))); rintro e_ wA ⟨⟨A4, q4, rfl, hra⟩, hbA⟩; have HC1 : Hid (Below w12.heap.size w12 wA) := (by refine hide (Below.trans ?_ (hbA.mono ?_)); (repeat' (first | with_reducible exact Below.refl _ _ | with_reducible exact HC2.out | with_reducible exact HC1.out | with_reducible refine Below.drew ?_ | with_reducible refine bel_alloc ?_ ?_ _ | with_reducible refine Below.setCell ?_ ?_ _)); all_goals (first | omega | (simp <;> omega))); have sC1 := HC1.out.size)
                                | (go_at_call 42; refine (HR1.out A4 q4 _ (by first | exact hra | exact hra.drew)).mono ?_; rintro e_ wB ⟨rfl, hbB⟩; have HC2 : Hid (Below w12.heap.size w12 wB) := (by refine hide (Below.trans ?_ (hbB.mono ?_)); (repeat' (first | with_reducible exact Below.refl _ _ | with_reducible exact HC2.out | with_reducible exact HC1.out | with_reducible refine Below.drew ?_ | with_reducible refine bel_alloc ?_ ?_ _ | with_reducible refine Below.setCell ?_ ?_ _)); all_goals (first | omega | (simp <;> omega))); have sC2 := HC2.out.size))
                            all_goals (
                              go_wp2
                              go_meet
                              exact ⟨rfl, rfl, rfl, HC2.out⟩)
                          obtain ⟨rfl, rfl, rfl, hb13⟩ := hcut
                          obtain ⟨w13, rfl⟩ : ∃ x : World, x = wc := ⟨_, rfl⟩
                          have HB13 := bel_tr HB12 (by have := HB12.size; omega) hb13
                          go_wp2
                          go_ret
                          exact ⟨rfl, by rw [hp]; exact HB13⟩
                    · have e4 : ((proE (base + bs) NL).2 != 0) = true := by simpa using g4
                      generalize (proE (base + bs) NL).2 = EE at HEM e4
                      clear g4 HVM
                      go_wp2_with (first | (go_at_call 30; refine (HEM.out _ _ _ hrN10).mono ?_; rintro e_ w11 ⟨rfl, hb11⟩))
                      go_ret
                      exact ⟨rfl, by rw [hp]; exact bel_tr HB10 (by have := HB10.size; omega) hb11⟩
                  · have HF5 : Hid (turned l fq j th sq = (s1, t1 + th)) := by show _ = _; rw [HT.out, if_neg g5]
                    have e5 : decide ((j : Int) < (P : Int)) = false := decide_eq_false (by omega)
                    go_upto_region 16 with fail
                    obtain ⟨w10, hW10⟩ : ∃ W, w9 = W := ⟨_, rfl⟩
                    rw [hW10] at hX9 hC9 hV9 hM9 hown9 HB9 ⊢
                    rw [← HF5.out, HNL.out] at hown9
                    clear k9_0 k9_1 zk9 x9_0 x9_1 x9_2 x9_3 x9_4 zx9 v9_0 v9_1 zv9 m9_0 m9_1 zm9 HF5
                    have hX10 := hX9
                    have hC10 := hC9
                    have hV10 := hV9
                    have hM10 := hM9
                    have hown10 := hown9
                    have HB10 := HB9
                    clear hX9 hC9 hV9 hM9 hown9 HB9
                    have k10_0 := hX10.cell 0; have k10_1 := hX10.cell 1; simp only [List.getElem?_cons_zero, List.getElem?_cons_succ] at k10_0 k10_1
                    have zk10 := hX10.lt
                    have x10_0 := hC10.cell 0; have x10_1 := hC10.cell 1; have x10_2 := hC10.cell 2; have x10_3 := hC10.cell 3; have x10_4 := hC10.cell 4; simp only [List.getElem?_cons_zero, List.getElem?_cons_succ] at x10_0 x10_1 x10_2 x10_3 x10_4
                    have zx10 := hC10.lt
                    have v10_0 := hV10.cell 0; have v10_1 := hV10.cell 1; simp only [List.getElem?_cons_zero, List.getElem?_cons_succ] at v10_0 v10_1
                    have zv10 := hV10.lt
                    have m10_0 := hM10.cell 0; have m10_1 := hM10.cell 1; simp only [List.getElem?_cons_zero, List.getElem?_cons_succ] at m10_0 m10_1
                    have zm10 := hM10.lt
                    have hrN10 : Rd w10 (some ⟨rg, 0, none⟩) (gs NL) := Rd.of_own hown10
                    have hr10 := hr.below HB10 (by omega)
                    clear g5 hown10
                    by_cases g4 : (proE (base + bs) NL).2 = 0
                    · have HV2 := hide (fun A c W h => HVM.out A c W h (proE_zero g4))
                      rw [g4] at HEM
                      clear g4 HVM
                      go_upto_region 18 with (first | (go_at_call 30; refine (HEM.out _ _ _ hrN10).mono ?_; rintro e_ w11 ⟨rfl, hb11⟩))
                      have hX11 := hX10.bel hb11
                      have hC11 := hC10.bel hb11
                      have hV11 := hV10.bel hb11
                      have hM11 := hM10.bel hb11
                      have hr11 := hr10.bel hb11
                      have hrN11 := hrN10.bel hb11
                      have HB11 := bel_tr HB10 (by have := HB10.size; omega) hb11
                      clear k10_0 k10_1 zk10 hX10 x10_0 x10_1 x10_2 x10_3 x10_4 zx10 hC10 v10_0 v10_1 zv10 hV10 m10_0 m10_1 zm10 hM10 hr10 hrN10
                      have k11_0 := hX11.cell 0; have k11_1 := hX11.cell 1; simp only [List.getElem?_cons_zero, List.getElem?_cons_succ] at k11_0 k11_1
                      have zk11 := hX11.lt
                      have x11_0 := hC11.cell 0; have x11_1 := hC11.cell 1; have x11_2 := hC11.cell 2; have x11_3 := hC11.cell 3; have x11_4 := hC11.cell 4; simp only [List.getElem?_cons_zero, List.getElem?_cons_succ] at x11_0 x11_1 x11_2 x11_3 x11_4
                      have zx11 := hC11.lt
                      have v11_0 := hV11.cell 0; have v11_1 := hV11.cell 1; simp only [List.getElem?_cons_zero, List.getElem?_cons_succ] at v11_0 v11_1
                      have zv11 := hV11.lt
                      have m11_0 := hM11.cell 0; have m11_1 := hM11.cell 1; simp only [List.getElem?_cons_zero, List.getElem?_cons_succ] at m11_0 m11_1
                      have zm11 := hM11.lt
                      go_cut [11, 12] from 155 to 162 (fun t u wx => ∃ g : Nat, t = .pointer (some ⟨g, 0, none⟩) ∧ u = .int .i64 0 ∧ Blk wx g 54 [.int .i64 m1, .int .i64 m2] ∧ w11.heap.size ≤ g ∧ Below w11.heap.size w11 wx)
                      case first =>
                        go_region_held3 (fun w' => (∀ b o, b < w11.heap.size → w'.cell? ⟨b, o, none⟩ = w11.cell? ⟨b, o, none⟩) ∧ Below w11.heap.size w11 w')
                          ((refine kp ?_; (repeat' (first | with_reducible exact Below.refl _ _ | with_reducible exact HC2.out | with_reducible exact HC1.out | with_reducible refine Below.drew ?_ | with_reducible refine bel_alloc ?_ ?_ _ | with_reducible refine Below.setCell ?_ ?_ _)); all_goals (first | omega | (simp <;> omega))))
                          (first
                            | (go_at_call 18; refine (HCN.out (some ⟨rg, 0, none⟩) rc _ ?_).mono ?_; exact hrN11.bel (by (repeat' (first | with_reducible exact Below.refl _ _ | with_reducible exact HC2.out | with_reducible exact HC1.out | with_reducible refine Below.drew ?_ | with_reducible refine bel_alloc ?_ ?_ _ | with_reducible refine Below.setCell ?_ ?_ _)); all_goals (first | omega | (simp <;> omega))); rintro e_ wA ⟨⟨A4, q4, rfl, hra⟩, hbA⟩; have HC1 : Hid (Below w11.heap.size w11 wA) := (by refine hide (Below.trans ?_ (hbA.mono ?_)); (repeat' (first | with_reducible exact Below.refl _ _ | with_reducible exact HC2.out | with_reducible exact HC1.out | with_reducible refine Below.drew ?_ | with_reducible refine bel_alloc ?_ ?_ _ | with_reducible refine Below.setCell ?_ ?_ _)); all_goals (first | omega | (simp <;> omega))); have sC1 := HC1.out.size; have hA1 := hbA.size; (try (refine (have BA : Blk wA w11.heap.size 54 [.int .i64 0, .int .i64 0] := ?_; ?_); (focus (refine Blk.bel ?_ hbA; first | exact Blk.new w11 _ [_, _] | exact Blk.new w11.drew _ [_, _]; done)); have BAc0 := BA.cell 0; have BAc1 := BA.cell 1; have BAf0 := BA.frozen 0; have BAf1 := BA.frozen 1; have BAl := BA.lt; simp only [List.getElem?_cons_zero, List.getElem?_cons_succ] at BAc0 BAc1)))
                            | (go_at_call 43; refine (HV2.out A4 q4 _ (by first | exact hra | exact hra.drew | exact hra.alloc _ | exact hra.bel (by (repeat' (first | with_reducible exact Below.refl _ _ | with_reducible exact HC2.out | with_reducible exact HC1.out | with_reducible refine Below.drew ?_ | with_reducible refine bel_alloc ?_ ?_ _ | with_reducible refine Below.setCell ?_ ?_ _)); all_goals (first | omega | (simp <;> omega))))).mono ?_; rintro e_ wB ⟨rfl, hbB⟩; have HC2 : Hid (Below w11.heap.size w11 wB) := (by refine hide (Below.trans ?_ (hbB.mono ?_)); (repeat' (first | with_reducible exact Below.refl _ _ | with_reducible exact HC2.out | with_reducible exact HC1.out | with_reducible refine Below.drew ?_ | with_reducible refine bel_alloc ?_ ?_ _ | with_reducible refine Below.setCell ?_ ?_ _)); all_goals (first | omega | (simp <;> omega))); have sC2 := HC2.out.size; have hB1 := hbB.size; (try (refine (have BB : Blk wB w11.heap.size 54 [.int .i64 0, .int .i64 0] := ?_; ?_); (focus (refine Blk.bel ?_ hbB; exact BA; done)); have BBc0 := BB.cell 0; have BBc1 := BB.cell 1; have BBf0 := BB.frozen 0; have BBf1 := BB.frozen 1; have BBl := BB.lt; simp only [List.getElem?_cons_zero, List.getElem?_cons_succ] at BBc0 BBc1)); (try (refine (have BC : Blk wB wA.heap.size 54 [.int .i64 0, .int .i64 0] := ?_; ?_); (focus (refine Blk.bel ?_ hbB; first | exact Blk.new wA _ [_, _] | exact Blk.new wA.drew _ [_, _]; done)); have BCc0 := BC.cell 0; have BCc1 := BC.cell 1; have BCf0 := BC.frozen 0; have BCf1 := BC.frozen 1; have BCl := BC.lt; simp only [List.getElem?_cons_zero, List.getElem?_cons_succ] at BCc0 BCc1))))
                        all_goals go_wp2
                        all_goals go_meet
                        all_goals refine ⟨_, rfl, rfl, (by first | exact (BB.set_ 0 _).set_ 1 _ | exact (BC.set_ 0 _).set_ 1 _ | exact Blk.new _ _ [_, _] | exact ((Blk.new _ _ [_, _]).set_ 0 _).set_ 1 _), (by first | exact Nat.le_refl _ | omega | (simp [World.setCell]; omega)), ?_⟩
                        all_goals (repeat' (first | with_reducible exact HC2.out | with_reducible refine bel_alloc ?_ ?_ _ | with_reducible refine Below.setCell ?_ ?_ _))
                        all_goals first | omega | (simp <;> omega)
                      obtain ⟨u, rfl, rfl, hU12, hzu, hb12⟩ := hcut
                      obtain ⟨w12, rfl⟩ : ∃ x : World, x = wc := ⟨_, rfl⟩
                      have hX12 := hX11.bel hb12
                      have hC12 := hC11.bel hb12
                      have hV12 := hV11.bel hb12
                      have hM12 := hM11.bel hb12
                      have hr12 := hr11.bel hb12
                      have HB12 := bel_tr HB11 (by have := HB11.size; omega) hb12
                      clear k11_0 k11_1 zk11 hX11 x11_0 x11_1 x11_2 x11_3 x11_4 zx11 hC11 v11_0 v11_1 zv11 hV11 m11_0 m11_1 zm11 hM11 hr11 
                      have k12_0 := hX12.cell 0; have k12_1 := hX12.cell 1; simp only [List.getElem?_cons_zero, List.getElem?_cons_succ] at k12_0 k12_1
                      have zk12 := hX12.lt
                      have x12_0 := hC12.cell 0; have x12_1 := hC12.cell 1; have x12_2 := hC12.cell 2; have x12_3 := hC12.cell 3; have x12_4 := hC12.cell 4; simp only [List.getElem?_cons_zero, List.getElem?_cons_succ] at x12_0 x12_1 x12_2 x12_3 x12_4
                      have zx12 := hC12.lt
                      have v12_0 := hV12.cell 0; have v12_1 := hV12.cell 1; simp only [List.getElem?_cons_zero, List.getElem?_cons_succ] at v12_0 v12_1
                      have zv12 := hV12.lt
                      have m12_0 := hM12.cell 0; have m12_1 := hM12.cell 1; simp only [List.getElem?_cons_zero, List.getElem?_cons_succ] at m12_0 m12_1
                      have zm12 := hM12.lt
                      have u12_0 := hU12.cell 0; have u12_1 := hU12.cell 1; simp only [List.getElem?_cons_zero, List.getElem?_cons_succ] at u12_0 u12_1
                      have zu12 := hU12.lt
                      go_upto_region 21 with fail
                      by_cases g6 : fq = 3000
                      · have e6 : (fq == 3000) = true := by simpa using g6
                        clear g6
                        go_wp2
                        go_ret
                        exact ⟨rfl, by rw [hp]; exact HB12⟩
                      · have e6 : (fq == 3000) = false := by simpa using g6
                        by_cases g7 : passN l (fq + 1) = l.length
                        · rw [HR2.out g6 g7] at HR1
                          dsimp only at HR1
                          clear g6 g7 HR2 HR3 HHI
                          go_upto_region 23 with fail
                          go_cut [13, 14, 15] from 182 to 191 (fun t u v wx => t = .int .i64 0 ∧ u = .int .i64 0 ∧ v = .int .i64 21 ∧ Below w12.heap.size w12 wx)
                          case first =>
                            go_region_held3 (fun w' => (∀ b o, b < w12.heap.size → w'.cell? ⟨b, o, none⟩ = w12.cell? ⟨b, o, none⟩) ∧ Below w12.heap.size w12 w')
                              ((refine kp ?_; (repeat' (first | with_reducible exact Below.refl _ _ | with_reducible exact HC2.out | with_reducible exact HC1.out | with_reducible refine Below.drew ?_ | with_reducible refine bel_alloc ?_ ?_ _ | with_reducible refine Below.setCell ?_ ?_ _)); all_goals (first | omega | (simp <;> omega))))
                              (first
                                | (go_at_call 18; refine (copy_c base A c l _ ?_ hl).mono ?_; exact hr12.bel (by (repeat' (first | with_reducible exact Below.refl _ _ | with_reducible exact HC2.out | with_reducible exact HC1.out | with_reducible refine Below.drew ?_ | with_reducible refine bel_alloc ?_ ?_ _ | with_reducible refine Below.setCell ?_ ?_ _)); all_goals (first | omega | (simp <;> omega))); rintro e_ wA ⟨⟨A4, q4, rfl, hra⟩, hbA⟩; have HC1 : Hid (Below w12.heap.size w12 wA) := (by refine hide (Below.trans ?_ (hbA.mono ?_)); (repeat' (first | with_reducible exact Below.refl _ _ | with_reducible exact HC2.out | with_reducible exact HC1.out | with_reducible refine Below.drew ?_ | with_reducible refine bel_alloc ?_ ?_ _ | with_reducible refine Below.setCell ?_ ?_ _)); all_goals (first | omega | (simp <;> omega))); have sC1 := HC1.out.size)
                                | (go_at_call 42; refine (HR1.out A4 q4 _ (by first | exact hra | exact hra.drew)).mono ?_; rintro e_ wB ⟨rfl, hbB⟩; have HC2 : Hid (Below w12.heap.size w12 wB) := (by refine hide (Below.trans ?_ (hbB.mono ?_)); (repeat' (first | with_reducible exact Below.refl _ _ | with_reducible exact HC2.out | with_reducible exact HC1.out | with_reducible refine Below.drew ?_ | with_reducible refine bel_alloc ?_ ?_ _ | with_reducible refine Below.setCell ?_ ?_ _)); all_goals (first | omega | (simp <;> omega))); have sC2 := HC2.out.size))
                            all_goals (
                              go_wp2
                              go_meet
                              exact ⟨rfl, rfl, rfl, HC2.out⟩)
                          obtain ⟨rfl, rfl, rfl, hb13⟩ := hcut
                          obtain ⟨w13, rfl⟩ : ∃ x : World, x = wc := ⟨_, rfl⟩
                          have HB13 := bel_tr HB12 (by have := HB12.size; omega) hb13
                          go_wp2
                          go_ret
                          exact ⟨rfl, by rw [hp]; exact HB13⟩
                        · rw [HR3.out g6 g7] at HR1
                          dsimp only at HR1
                          have hhi := HHI.out
                          clear g6 g7 HR2 HR3 HHI
                          generalize hgt base l (passN l (fq + 1)) = H2 at HR1 hhi
                          generalize passN l (fq + 1) = I2 at HR1
                          have e8 : decide (HN ≤ H2) = true := decide_eq_true hhi
                          go_upto_region 23 with fail
                          go_cut [13, 14, 15] from 182 to 191 (fun t u v wx => t = .int .i64 H2 ∧ u = .int .i64 I2 ∧ v = .int .i64 0 ∧ Below w12.heap.size w12 wx)
                          case first =>
                            go_region_held3 (fun w' => (∀ b o, b < w12.heap.size → w'.cell? ⟨b, o, none⟩ = w12.cell? ⟨b, o, none⟩) ∧ Below w12.heap.size w12 w')
                              ((refine kp ?_; (repeat' (first | with_reducible exact Below.refl _ _ | with_reducible exact HC2.out | with_reducible exact HC1.out | with_reducible refine Below.drew ?_ | with_reducible refine bel_alloc ?_ ?_ _ | with_reducible refine Below.setCell ?_ ?_ _)); all_goals (first | omega | (simp <;> omega))))
                              (first
                                | (go_at_call 18; refine (copy_c base A c l _ ?_ hl).mono ?_; exact hr12.bel (by (repeat' (first | with_reducible exact Below.refl _ _ | with_reducible exact HC2.out | with_reducible exact HC1.out | with_reducible refine Below.drew ?_ | with_reducible refine bel_alloc ?_ ?_ _ | with_reducible refine Below.setCell ?_ ?_ _)); all_goals (first | omega | (simp <;> omega))); rintro e_ wA ⟨⟨A4, q4, rfl, hra⟩, hbA⟩; have HC1 : Hid (Below w12.heap.size w12 wA) := (by refine hide (Below.trans ?_ (hbA.mono ?_)); (repeat' (first | with_reducible exact Below.refl _ _ | with_reducible exact HC2.out | with_reducible exact HC1.out | with_reducible refine Below.drew ?_ | with_reducible refine bel_alloc ?_ ?_ _ | with_reducible refine Below.setCell ?_ ?_ _)); all_goals (first | omega | (simp <;> omega))); have sC1 := HC1.out.size)
                                | (go_at_call 42; refine (HR1.out A4 q4 _ (by first | exact hra | exact hra.drew)).mono ?_; rintro e_ wB ⟨rfl, hbB⟩; have HC2 : Hid (Below w12.heap.size w12 wB) := (by refine hide (Below.trans ?_ (hbB.mono ?_)); (repeat' (first | with_reducible exact Below.refl _ _ | with_reducible exact HC2.out | with_reducible exact HC1.out | with_reducible refine Below.drew ?_ | with_reducible refine bel_alloc ?_ ?_ _ | with_reducible refine Below.setCell ?_ ?_ _)); all_goals (first | omega | (simp <;> omega))); have sC2 := HC2.out.size))
                            all_goals (
                              go_wp2
                              go_meet
                              exact ⟨rfl, rfl, rfl, HC2.out⟩)
                          obtain ⟨rfl, rfl, rfl, hb13⟩ := hcut
                          obtain ⟨w13, rfl⟩ : ∃ x : World, x = wc := ⟨_, rfl⟩
                          have HB13 := bel_tr HB12 (by have := HB12.size; omega) hb13
                          go_wp2
                          go_ret
                          exact ⟨rfl, by rw [hp]; exact HB13⟩
                    · have e4 : ((proE (base + bs) NL).2 != 0) = true := by simpa using g4
                      generalize (proE (base + bs) NL).2 = EE at HEM e4
                      clear g4 HVM
                      go_wp2_with (first | (go_at_call 30; refine (HEM.out _ _ _ hrN10).mono ?_; rintro e_ w11 ⟨rfl, hb11⟩))
                      go_ret
                      exact ⟨rfl, by rw [hp]; exact bel_tr HB10 (by have := HB10.size; omega) hb11⟩
              · rw [o4] at HW4
                clear o4
                go_enter Try.func9, Try.ntmps9
                go_upto_region 1 with fail
                rw [HW.out]
                go_wp2_with (first
                  | (go_at_call 15; refine (awake_c _).mono ?_; rintro e_ w1 ⟨rfl, hb1⟩; have hX1 := hX0.bel hb1; have hC1 := hC0.bel hb1; have hr1 := hr0.bel hb1; have HB1 := bel_tr HB0 (by have := HB0.size; omega) hb1; have k1_0 := hX1.cell 0; have k1_1 := hX1.cell 1; simp only [List.getElem?_cons_zero, List.getElem?_cons_succ] at k1_0 k1_1; have zk1 := hX1.lt; have x1_0 := hC1.cell 0; have x1_1 := hC1.cell 1; have x1_2 := hC1.cell 2; have x1_3 := hC1.cell 3; have x1_4 := hC1.cell 4; simp only [List.getElem?_cons_zero, List.getElem?_cons_succ] at x1_0 x1_1 x1_2 x1_3 x1_4; have zx1 := hC1.lt)
                  | (go_at_call 16; refine (HF.out _).mono ?_; rintro e_ w2 ⟨rfl, hb2⟩; have hX2 := hX1.bel hb2; have hC2 := hC1.bel hb2; have hr2 := hr1.bel hb2; have HB2 := bel_tr HB1 (by have := HB1.size; omega) hb2; have k2_0 := hX2.cell 0; have k2_1 := hX2.cell 1; simp only [List.getElem?_cons_zero, List.getElem?_cons_succ] at k2_0 k2_1; have zk2 := hX2.lt; have x2_0 := hC2.cell 0; have x2_1 := hC2.cell 1; have x2_2 := hC2.cell 2; have x2_3 := hC2.cell 3; have x2_4 := hC2.cell 4; simp only [List.getElem?_cons_zero, List.getElem?_cons_succ] at x2_0 x2_1 x2_2 x2_3 x2_4; have zx2 := hC2.lt)
                  | (go_at_call 30; refine (HE.out _ hr2).mono ?_; rintro e_ w3 ⟨rfl, hb3⟩; have hX3 := hX2.bel hb3; have hC3 := hC2.bel hb3; have hr3 := hr2.bel hb3; have HB3 := bel_tr HB2 (by have := HB2.size; omega) hb3; have k3_0 := hX3.cell 0; have k3_1 := hX3.cell 1; simp only [List.getElem?_cons_zero, List.getElem?_cons_succ] at k3_0 k3_1; have zk3 := hX3.lt; have x3_0 := hC3.cell 0; have x3_1 := hC3.cell 1; have x3_2 := hC3.cell 2; have x3_3 := hC3.cell 3; have x3_4 := hC3.cell 4; simp only [List.getElem?_cons_zero, List.getElem?_cons_succ] at x3_0 x3_1 x3_2 x3_3 x3_4; have zx3 := hC3.lt)
                  | (go_at_call 39; refine (HQ.out _).mono ?_; rintro e_ w_ ⟨rfl, rfl⟩)
                  | (go_at_call 23; with_reducible refine (HW1.out _).mono ?_; rintro e_ w_ ⟨rfl, rfl⟩)
                  | (go_at_call 23; with_reducible refine (HW2.out _).mono ?_; rintro e_ w_ ⟨rfl, rfl⟩)
                  | (go_at_call 23; with_reducible refine (HW3.out _).mono ?_; rintro e_ w_ ⟨rfl, rfl⟩)
                  | (go_at_call 23; with_reducible refine (HW4.out _).mono ?_; rintro e_ w_ ⟨rfl, rfl⟩))
                go_ret
                exact ⟨rfl, by rw [hp]; exact HB3⟩
            · rw [o3] at HW3
              clear o3
              go_enter Try.func9, Try.ntmps9
              go_upto_region 1 with fail
              rw [HW.out]
              go_wp2_with (first
                | (go_at_call 15; refine (awake_c _).mono ?_; rintro e_ w1 ⟨rfl, hb1⟩; have hX1 := hX0.bel hb1; have hC1 := hC0.bel hb1; have hr1 := hr0.bel hb1; have HB1 := bel_tr HB0 (by have := HB0.size; omega) hb1; have k1_0 := hX1.cell 0; have k1_1 := hX1.cell 1; simp only [List.getElem?_cons_zero, List.getElem?_cons_succ] at k1_0 k1_1; have zk1 := hX1.lt; have x1_0 := hC1.cell 0; have x1_1 := hC1.cell 1; have x1_2 := hC1.cell 2; have x1_3 := hC1.cell 3; have x1_4 := hC1.cell 4; simp only [List.getElem?_cons_zero, List.getElem?_cons_succ] at x1_0 x1_1 x1_2 x1_3 x1_4; have zx1 := hC1.lt)
                | (go_at_call 16; refine (HF.out _).mono ?_; rintro e_ w2 ⟨rfl, hb2⟩; have hX2 := hX1.bel hb2; have hC2 := hC1.bel hb2; have hr2 := hr1.bel hb2; have HB2 := bel_tr HB1 (by have := HB1.size; omega) hb2; have k2_0 := hX2.cell 0; have k2_1 := hX2.cell 1; simp only [List.getElem?_cons_zero, List.getElem?_cons_succ] at k2_0 k2_1; have zk2 := hX2.lt; have x2_0 := hC2.cell 0; have x2_1 := hC2.cell 1; have x2_2 := hC2.cell 2; have x2_3 := hC2.cell 3; have x2_4 := hC2.cell 4; simp only [List.getElem?_cons_zero, List.getElem?_cons_succ] at x2_0 x2_1 x2_2 x2_3 x2_4; have zx2 := hC2.lt)
                | (go_at_call 30; refine (HE.out _ hr2).mono ?_; rintro e_ w3 ⟨rfl, hb3⟩; have hX3 := hX2.bel hb3; have hC3 := hC2.bel hb3; have hr3 := hr2.bel hb3; have HB3 := bel_tr HB2 (by have := HB2.size; omega) hb3; have k3_0 := hX3.cell 0; have k3_1 := hX3.cell 1; simp only [List.getElem?_cons_zero, List.getElem?_cons_succ] at k3_0 k3_1; have zk3 := hX3.lt; have x3_0 := hC3.cell 0; have x3_1 := hC3.cell 1; have x3_2 := hC3.cell 2; have x3_3 := hC3.cell 3; have x3_4 := hC3.cell 4; simp only [List.getElem?_cons_zero, List.getElem?_cons_succ] at x3_0 x3_1 x3_2 x3_3 x3_4; have zx3 := hC3.lt)
                | (go_at_call 39; refine (HQ.out _).mono ?_; rintro e_ w_ ⟨rfl, rfl⟩)
                | (go_at_call 23; with_reducible refine (HW1.out _).mono ?_; rintro e_ w_ ⟨rfl, rfl⟩)
                | (go_at_call 23; with_reducible refine (HW2.out _).mono ?_; rintro e_ w_ ⟨rfl, rfl⟩)
                | (go_at_call 23; with_reducible refine (HW3.out _).mono ?_; rintro e_ w_ ⟨rfl, rfl⟩))
              go_ret
              exact ⟨rfl, by rw [hp]; exact HB3⟩
          · rw [o2] at HW2
            clear o2
            go_enter Try.func9, Try.ntmps9
            go_upto_region 1 with fail
            rw [HW.out]
            go_wp2_with (first
              | (go_at_call 15; refine (awake_c _).mono ?_; rintro e_ w1 ⟨rfl, hb1⟩; have hX1 := hX0.bel hb1; have hC1 := hC0.bel hb1; have hr1 := hr0.bel hb1; have HB1 := bel_tr HB0 (by have := HB0.size; omega) hb1; have k1_0 := hX1.cell 0; have k1_1 := hX1.cell 1; simp only [List.getElem?_cons_zero, List.getElem?_cons_succ] at k1_0 k1_1; have zk1 := hX1.lt; have x1_0 := hC1.cell 0; have x1_1 := hC1.cell 1; have x1_2 := hC1.cell 2; have x1_3 := hC1.cell 3; have x1_4 := hC1.cell 4; simp only [List.getElem?_cons_zero, List.getElem?_cons_succ] at x1_0 x1_1 x1_2 x1_3 x1_4; have zx1 := hC1.lt)
              | (go_at_call 16; refine (HF.out _).mono ?_; rintro e_ w2 ⟨rfl, hb2⟩; have hX2 := hX1.bel hb2; have hC2 := hC1.bel hb2; have hr2 := hr1.bel hb2; have HB2 := bel_tr HB1 (by have := HB1.size; omega) hb2; have k2_0 := hX2.cell 0; have k2_1 := hX2.cell 1; simp only [List.getElem?_cons_zero, List.getElem?_cons_succ] at k2_0 k2_1; have zk2 := hX2.lt; have x2_0 := hC2.cell 0; have x2_1 := hC2.cell 1; have x2_2 := hC2.cell 2; have x2_3 := hC2.cell 3; have x2_4 := hC2.cell 4; simp only [List.getElem?_cons_zero, List.getElem?_cons_succ] at x2_0 x2_1 x2_2 x2_3 x2_4; have zx2 := hC2.lt)
              | (go_at_call 30; refine (HE.out _ hr2).mono ?_; rintro e_ w3 ⟨rfl, hb3⟩; have hX3 := hX2.bel hb3; have hC3 := hC2.bel hb3; have hr3 := hr2.bel hb3; have HB3 := bel_tr HB2 (by have := HB2.size; omega) hb3; have k3_0 := hX3.cell 0; have k3_1 := hX3.cell 1; simp only [List.getElem?_cons_zero, List.getElem?_cons_succ] at k3_0 k3_1; have zk3 := hX3.lt; have x3_0 := hC3.cell 0; have x3_1 := hC3.cell 1; have x3_2 := hC3.cell 2; have x3_3 := hC3.cell 3; have x3_4 := hC3.cell 4; simp only [List.getElem?_cons_zero, List.getElem?_cons_succ] at x3_0 x3_1 x3_2 x3_3 x3_4; have zx3 := hC3.lt)
              | (go_at_call 39; refine (HQ.out _).mono ?_; rintro e_ w_ ⟨rfl, rfl⟩)
              | (go_at_call 23; with_reducible refine (HW1.out _).mono ?_; rintro e_ w_ ⟨rfl, rfl⟩)
              | (go_at_call 23; with_reducible refine (HW2.out _).mono ?_; rintro e_ w_ ⟨rfl, rfl⟩))
            go_ret
            exact ⟨rfl, by rw [hp]; exact HB3⟩
        · rw [o1] at HW1
          clear o1
          go_enter Try.func9, Try.ntmps9
          go_upto_region 1 with fail
          rw [HW.out]
          go_wp2_with (first
            | (go_at_call 15; refine (awake_c _).mono ?_; rintro e_ w1 ⟨rfl, hb1⟩; have hX1 := hX0.bel hb1; have hC1 := hC0.bel hb1; have hr1 := hr0.bel hb1; have HB1 := bel_tr HB0 (by have := HB0.size; omega) hb1; have k1_0 := hX1.cell 0; have k1_1 := hX1.cell 1; simp only [List.getElem?_cons_zero, List.getElem?_cons_succ] at k1_0 k1_1; have zk1 := hX1.lt; have x1_0 := hC1.cell 0; have x1_1 := hC1.cell 1; have x1_2 := hC1.cell 2; have x1_3 := hC1.cell 3; have x1_4 := hC1.cell 4; simp only [List.getElem?_cons_zero, List.getElem?_cons_succ] at x1_0 x1_1 x1_2 x1_3 x1_4; have zx1 := hC1.lt)
            | (go_at_call 16; refine (HF.out _).mono ?_; rintro e_ w2 ⟨rfl, hb2⟩; have hX2 := hX1.bel hb2; have hC2 := hC1.bel hb2; have hr2 := hr1.bel hb2; have HB2 := bel_tr HB1 (by have := HB1.size; omega) hb2; have k2_0 := hX2.cell 0; have k2_1 := hX2.cell 1; simp only [List.getElem?_cons_zero, List.getElem?_cons_succ] at k2_0 k2_1; have zk2 := hX2.lt; have x2_0 := hC2.cell 0; have x2_1 := hC2.cell 1; have x2_2 := hC2.cell 2; have x2_3 := hC2.cell 3; have x2_4 := hC2.cell 4; simp only [List.getElem?_cons_zero, List.getElem?_cons_succ] at x2_0 x2_1 x2_2 x2_3 x2_4; have zx2 := hC2.lt)
            | (go_at_call 30; refine (HE.out _ hr2).mono ?_; rintro e_ w3 ⟨rfl, hb3⟩; have hX3 := hX2.bel hb3; have hC3 := hC2.bel hb3; have hr3 := hr2.bel hb3; have HB3 := bel_tr HB2 (by have := HB2.size; omega) hb3; have k3_0 := hX3.cell 0; have k3_1 := hX3.cell 1; simp only [List.getElem?_cons_zero, List.getElem?_cons_succ] at k3_0 k3_1; have zk3 := hX3.lt; have x3_0 := hC3.cell 0; have x3_1 := hC3.cell 1; have x3_2 := hC3.cell 2; have x3_3 := hC3.cell 3; have x3_4 := hC3.cell 4; simp only [List.getElem?_cons_zero, List.getElem?_cons_succ] at x3_0 x3_1 x3_2 x3_3 x3_4; have zx3 := hC3.lt)
            | (go_at_call 39; refine (HQ.out _).mono ?_; rintro e_ w_ ⟨rfl, rfl⟩)
            | (go_at_call 23; with_reducible refine (HW1.out _).mono ?_; rintro e_ w_ ⟨rfl, rfl⟩))
          go_ret
          exact ⟨rfl, by rw [hp]; exact HB3⟩
      · have e1 : (freqE fq != 0) = true := by simpa using g2
        clear g2
        go_enter Try.func9, Try.ntmps9
        go_upto_region 1 with fail
        rw [HW.out]
        go_wp2_with (first
          | (go_at_call 15; refine (awake_c _).mono ?_; rintro e_ w1 ⟨rfl, hb1⟩; have hX1 := hX0.bel hb1; have hC1 := hC0.bel hb1; have hr1 := hr0.bel hb1; have HB1 := bel_tr HB0 (by have := HB0.size; omega) hb1; have k1_0 := hX1.cell 0; have k1_1 := hX1.cell 1; simp only [List.getElem?_cons_zero, List.getElem?_cons_succ] at k1_0 k1_1; have zk1 := hX1.lt; have x1_0 := hC1.cell 0; have x1_1 := hC1.cell 1; have x1_2 := hC1.cell 2; have x1_3 := hC1.cell 3; have x1_4 := hC1.cell 4; simp only [List.getElem?_cons_zero, List.getElem?_cons_succ] at x1_0 x1_1 x1_2 x1_3 x1_4; have zx1 := hC1.lt)
          | (go_at_call 16; refine (HF.out _).mono ?_; rintro e_ w2 ⟨rfl, hb2⟩; have hX2 := hX1.bel hb2; have hC2 := hC1.bel hb2; have hr2 := hr1.bel hb2; have HB2 := bel_tr HB1 (by have := HB1.size; omega) hb2; have k2_0 := hX2.cell 0; have k2_1 := hX2.cell 1; simp only [List.getElem?_cons_zero, List.getElem?_cons_succ] at k2_0 k2_1; have zk2 := hX2.lt; have x2_0 := hC2.cell 0; have x2_1 := hC2.cell 1; have x2_2 := hC2.cell 2; have x2_3 := hC2.cell 3; have x2_4 := hC2.cell 4; simp only [List.getElem?_cons_zero, List.getElem?_cons_succ] at x2_0 x2_1 x2_2 x2_3 x2_4; have zx2 := hC2.lt)
          | (go_at_call 30; refine (HE.out _ hr2).mono ?_; rintro e_ w3 ⟨rfl, hb3⟩; have hX3 := hX2.bel hb3; have hC3 := hC2.bel hb3; have hr3 := hr2.bel hb3; have HB3 := bel_tr HB2 (by have := HB2.size; omega) hb3; have k3_0 := hX3.cell 0; have k3_1 := hX3.cell 1; simp only [List.getElem?_cons_zero, List.getElem?_cons_succ] at k3_0 k3_1; have zk3 := hX3.lt; have x3_0 := hC3.cell 0; have x3_1 := hC3.cell 1; have x3_2 := hC3.cell 2; have x3_3 := hC3.cell 3; have x3_4 := hC3.cell 4; simp only [List.getElem?_cons_zero, List.getElem?_cons_succ] at x3_0 x3_1 x3_2 x3_3 x3_4; have zx3 := hC3.lt)
          | (go_at_call 39; refine (HQ.out _).mono ?_; rintro e_ w_ ⟨rfl, rfl⟩))
        go_ret
        exact ⟨rfl, by rw [hp]; exact HB3⟩
    · have e1 : ((proE base l).2 != 0) = true := by simpa using g1
      generalize (proE base l).2 = EE at HE e1
      clear g1
      go_enter Try.func9, Try.ntmps9
      go_upto_region 1 with fail
      rw [HW.out]
      go_wp2_with (first
        | (go_at_call 15; refine (awake_c _).mono ?_; rintro e_ w1 ⟨rfl, hb1⟩; have hX1 := hX0.bel hb1; have hC1 := hC0.bel hb1; have hr1 := hr0.bel hb1; have HB1 := bel_tr HB0 (by have := HB0.size; omega) hb1; have k1_0 := hX1.cell 0; have k1_1 := hX1.cell 1; simp only [List.getElem?_cons_zero, List.getElem?_cons_succ] at k1_0 k1_1; have zk1 := hX1.lt; have x1_0 := hC1.cell 0; have x1_1 := hC1.cell 1; have x1_2 := hC1.cell 2; have x1_3 := hC1.cell 3; have x1_4 := hC1.cell 4; simp only [List.getElem?_cons_zero, List.getElem?_cons_succ] at x1_0 x1_1 x1_2 x1_3 x1_4; have zx1 := hC1.lt)
        | (go_at_call 16; refine (HF.out _).mono ?_; rintro e_ w2 ⟨rfl, hb2⟩; have hX2 := hX1.bel hb2; have hC2 := hC1.bel hb2; have hr2 := hr1.bel hb2; have HB2 := bel_tr HB1 (by have := HB1.size; omega) hb2; have k2_0 := hX2.cell 0; have k2_1 := hX2.cell 1; simp only [List.getElem?_cons_zero, List.getElem?_cons_succ] at k2_0 k2_1; have zk2 := hX2.lt; have x2_0 := hC2.cell 0; have x2_1 := hC2.cell 1; have x2_2 := hC2.cell 2; have x2_3 := hC2.cell 3; have x2_4 := hC2.cell 4; simp only [List.getElem?_cons_zero, List.getElem?_cons_succ] at x2_0 x2_1 x2_2 x2_3 x2_4; have zx2 := hC2.lt)
        | (go_at_call 30; refine (HE.out _ hr2).mono ?_; rintro e_ w3 ⟨rfl, hb3⟩; have hX3 := hX2.bel hb3; have hC3 := hC2.bel hb3; have hr3 := hr2.bel hb3; have HB3 := bel_tr HB2 (by have := HB2.size; omega) hb3; have k3_0 := hX3.cell 0; have k3_1 := hX3.cell 1; simp only [List.getElem?_cons_zero, List.getElem?_cons_succ] at k3_0 k3_1; have zk3 := hX3.lt; have x3_0 := hC3.cell 0; have x3_1 := hC3.cell 1; have x3_2 := hC3.cell 2; have x3_3 := hC3.cell 3; have x3_4 := hC3.cell 4; simp only [List.getElem?_cons_zero, List.getElem?_cons_succ] at x3_0 x3_1 x3_2 x3_3 x3_4; have zx3 := hC3.lt))
      go_ret
      exact ⟨rfl, by rw [hp]; exact HB3⟩
  · rw [decide_eq_false h14] at HF
    clear h14 hmx
    go_enter Try.func9, Try.ntmps9
    go_upto_region 1 with fail
    rw [HW.out]
    go_wp2_with (first
      | (go_at_call 15; refine (awake_c _).mono ?_; rintro e_ w1 ⟨rfl, hb1⟩; have hX1 := hX0.bel hb1; have hC1 := hC0.bel hb1; have hr1 := hr0.bel hb1; have HB1 := bel_tr HB0 (by have := HB0.size; omega) hb1; have k1_0 := hX1.cell 0; have k1_1 := hX1.cell 1; simp only [List.getElem?_cons_zero, List.getElem?_cons_succ] at k1_0 k1_1; have zk1 := hX1.lt; have x1_0 := hC1.cell 0; have x1_1 := hC1.cell 1; have x1_2 := hC1.cell 2; have x1_3 := hC1.cell 3; have x1_4 := hC1.cell 4; simp only [List.getElem?_cons_zero, List.getElem?_cons_succ] at x1_0 x1_1 x1_2 x1_3 x1_4; have zx1 := hC1.lt)
      | (go_at_call 16; refine (HF.out _).mono ?_; rintro e_ w2 ⟨rfl, hb2⟩; have hX2 := hX1.bel hb2; have hC2 := hC1.bel hb2; have hr2 := hr1.bel hb2; have HB2 := bel_tr HB1 (by have := HB1.size; omega) hb2; have k2_0 := hX2.cell 0; have k2_1 := hX2.cell 1; simp only [List.getElem?_cons_zero, List.getElem?_cons_succ] at k2_0 k2_1; have zk2 := hX2.lt; have x2_0 := hC2.cell 0; have x2_1 := hC2.cell 1; have x2_2 := hC2.cell 2; have x2_3 := hC2.cell 3; have x2_4 := hC2.cell 4; simp only [List.getElem?_cons_zero, List.getElem?_cons_succ] at x2_0 x2_1 x2_2 x2_3 x2_4; have zx2 := hC2.lt))
    go_ret
    exact ⟨rfl, by rw [hp]; exact HB2⟩
end Go.Proofs.Ytgnhkjfdicdcmaa

