/- Law: contained. -/
import Derived.Test.YtdeehodekilaiaaZ2a
import Derived.Test.YtdeehodekilaiaaY6
import Derived.Test.YtdeehodekilaiaaZ1b
import Derived.Test.YtdeehodekilaiaaK6
set_option linter.unusedSimpArgs false
set_option linter.unusedVariables false
namespace Go.Proofs.Ytdeehodekilaiaa
open Go.RowKit
set_option maxRecDepth 100000

set_option maxHeartbeats 8000000 in
theorem containedLaw_c (F H V : Option Addr) (fc hc vc : Nat) (fs ts vs : List Int) (B af wd sq wid : Int) (w : World) (hF : Rd w F (ints fs)) (hH : Rd w H (ints ts)) (hV : Rd w V (ints vs)) (hfx : fs.length ≤ maxLen) (htx : ts.length ≤ maxLen) (hvx : vs.length ≤ maxLen) :
    Calls Try.prog 4 #[.agg #[.slice F fs.length fc, .slice H ts.length hc, .slice V vs.length vc, .int .i64 B, .int .i64 af, .int .i64 wd, .int .i64 sq], .int .i64 wid] w fun r w' => r = .returned (.bool true) ∧ Below w.heap.size w w' := by
  obtain ⟨p, hp⟩ : ∃ p, w.heap.size = p := ⟨_, rfl⟩
  obtain ⟨W0, hW0⟩ : ∃ W0, w.alloc (.cells #[.slice F fs.length fc, .slice H ts.length hc, .slice V vs.length vc, .int .i64 B, .int .i64 af, .int .i64 wd, .int .i64 sq] 42) = W0 := ⟨_, rfl⟩
  have hX0 : Blk W0 p 42 [.slice F fs.length fc, .slice H ts.length hc, .slice V vs.length vc, .int .i64 B, .int .i64 af, .int .i64 wd, .int .i64 sq] := by rw [← hW0, ← hp]; exact Blk.new w _ [_, _, _, _, _, _, _]
  have hB0 : Below p w W0 := by rw [← hW0, ← hp]; exact alloc_bel _ _
  have HSA := hide (fun W hf hh hv => sampled_u F H V fc hc vc fs ts vs B af wd sq W hf hh hv hfx htx hvx)
  have HW := hide hW0
  clear hW0 hfx htx hvx
  have HF := hide (fun W (hb : Below p w W) => hF.below hb (by omega))
  have HH := hide (fun W (hb : Below p w W) => hH.below hb (by omega))
  have HV := hide (fun W (hb : Below p w W) => hV.below hb (by omega))
  have c0 := hX0.cell 0; have c1 := hX0.cell 1; simp only [List.getElem?_cons_zero, List.getElem?_cons_succ] at c0 c1
  have c2 := hX0.cell 2
  have c3 := hX0.cell 3
  have c4 := hX0.cell 4
  have c5 := hX0.cell 5
  have c6 := hX0.cell 6
  simp only [List.getElem?_cons_zero, List.getElem?_cons_succ] at c2 c3 c4 c5 c6
  have z0 := hX0.lt
  go_enter Try.func4, Try.ntmps4
  go_upto_region 1 with fail
  rw [HW.out]
  go_upto_region 3 with (first
    | (go_at_call 6; refine (awake_c _).mono ?_; rintro e w1 ⟨rfl, hb1⟩))
  have hX1 := hX0.bel hb1
  have hB1 := bel_tr hB0 (Nat.le_of_lt hX0.lt) hb1
  clear c0 c1 c2 c3 c4 c5 c6 z0 hX0 hb1 hB0
  have c0 := hX1.cell 0; have c1 := hX1.cell 1; simp only [List.getElem?_cons_zero, List.getElem?_cons_succ] at c0 c1
  have c2 := hX1.cell 2
  have c3 := hX1.cell 3
  have c4 := hX1.cell 4
  have c5 := hX1.cell 5
  have c6 := hX1.cell 6
  simp only [List.getElem?_cons_zero, List.getElem?_cons_succ] at c2 c3 c4 c5 c6
  have z0 := hX1.lt
  go_upto_region 4 with (first
    | (go_at_call 14; refine (HSA.out _ (HF.out _ hB1) (HH.out _ hB1) (HV.out _ hB1)).mono ?_; rintro e w2 ⟨⟨B2, A, n1, c, P, n2, d, a2, wd2, ok, rfl, HOK⟩, hb2⟩))
  obtain ⟨q, hq⟩ : ∃ q, w2.heap.size = q := ⟨_, rfl⟩
  obtain ⟨bo, hbo⟩ : ∃ bo, w1.heap.size = bo := ⟨_, rfl⟩
  obtain ⟨W3, hW3⟩ : ∃ W, (w2.alloc (.cells #[.int .i64 B2, .slice A n1 c] 24)).alloc (.cells #[.slice P n2 d, .int .i64 a2, .int .i64 wd2] 30) = W := ⟨_, rfl⟩
  obtain ⟨yS, yT, yb⟩ := two_new w2 24 30 [.int .i64 B2, .slice A n1 c] [.slice P n2 d, .int .i64 a2, .int .i64 wd2]
  have hb23 : Below w2.heap.size w2 W3 := by rw [← hW3]; exact yb
  have hS3 : Blk W3 q 24 [.int .i64 B2, .slice A n1 c] := by rw [← hW3, ← hq]; exact yS
  have hT3 : Blk W3 (q + 1) 30 [.slice P n2 d, .int .i64 a2, .int .i64 wd2] := by rw [← hW3, ← hq]; exact yT
  clear yS yT yb
  rw [hW3, hq]
  have hpo : p < bo := by rw [← hbo]; exact hX1.lt
  have hqo : bo ≤ q := by rw [← hbo, ← hq]; exact hb2.size
  have hX3 := (hX1.bel hb2).bel hb23
  have hB3 := bel_tr (bel_tr hB1 (by omega) hb2) (by omega) hb23
  rcases HOK with rfl | ⟨HPRE, hsq0, hsq1, rfl, rfl, rfl, rfl, rfl, rfl, hcap, ha, ho⟩
  · clear c0 c1 c2 c3 c4 c5 c6 z0 HSA
    have c0 := hX3.cell 0; have c1 := hX3.cell 1; simp only [List.getElem?_cons_zero, List.getElem?_cons_succ] at c0 c1
    have c2 := hX3.cell 2
    have c3 := hX3.cell 3
    have c4 := hX3.cell 4
    have c5 := hX3.cell 5
    have c6 := hX3.cell 6
    simp only [List.getElem?_cons_zero, List.getElem?_cons_succ] at c2 c3 c4 c5 c6
    have z0 := hX3.lt
    go_wp2
    go_ret
    exact ⟨rfl, by rw [hp]; exact hB3⟩
  · rw [hbo] at ho
    obtain ⟨a, rfl⟩ : ∃ a : Nat, af = (a : Int) := ⟨af.toNat, by have := HPRE.a0; omega⟩
    have hI3 : ConI F H V A P fc hc vc c d fs ts vs B (a : Int) wd sq fs.length (slabL fs ts) (bareL fs fs.length) p q (q + 1) bo w W3 := ⟨hX3, hS3, hT3, ha.bel hb23, ownsRow_bel ho hb23, hB3, by omega, by omega, by omega⟩
    have HPRE := hide HPRE
    have hsq1 : sq < fs.getD a 0 * fs.getD a 0 := hsq1
    have hsq := hide (And.intro hsq0 hsq1)
    clear hsq0 hsq1 ha ho hb23 hW3 hX3 hB3 hS3 hT3 hb2 hX1 hB1 c0 c1 c2 c3 c4 c5 c6 z0 HSA hbo hq
    have hx := hI3.x
    have c0 := hx.cell 0; have c1 := hx.cell 1; simp only [List.getElem?_cons_zero, List.getElem?_cons_succ] at c0 c1
    have c2 := hx.cell 2
    have c3 := hx.cell 3
    have c4 := hx.cell 4
    have c5 := hx.cell 5
    have c6 := hx.cell 6
    simp only [List.getElem?_cons_zero, List.getElem?_cons_succ] at c2 c3 c4 c5 c6
    have z0 := hx.lt
    have HWI := hide (fun W => within_c wid 0 wd W)
    cases hww : outB wid 0 wd with
    | true =>
      rw [hww] at HWI
      clear hww
      go_wp2_with (first | (go_at_call 15; refine (HWI.out _).mono ?_; rintro e_ w_ ⟨rfl, rfl⟩))
      go_ret
      exact ⟨rfl, by rw [hp]; exact hI3.b⟩
    | false =>
      rw [hww] at HWI
      have hwd := outB_false.1 hww
      clear hww
      have n0 := HPRE.out.n0
      have n8 := HPRE.out.n1
      have a1 := HPRE.out.a1
      go_upto_region 7 with (first | (go_at_call 15; refine (HWI.out _).mono ?_; rintro e_ w_ ⟨rfl, rfl⟩))
      obtain ⟨vb, hvb⟩ : ∃ vb : Bool, decide (a + 1 < fs.length ∧ 0 < wid) = vb := ⟨_, rfl⟩
      have hvb := hide hvb
      have u1 : IntKind.i64.wrap ((fs.length : Int) - 1) = (fs.length : Int) - 1 := by simp (disch := omega) only [IntWalk.i64_in]
      go_cut [57] from 49 to 57 (fun tt wx => tt = .bool vb ∧ W3 = wx)
      case first =>
        by_cases h1 : a + 1 < fs.length
        · have d1 : decide ((a : Int) < (fs.length : Int) - 1) = true := decide_eq_true (by omega)
          by_cases h2 : 0 < wid
          · have d2 : decide (0 < wid) = true := decide_eq_true h2
            have d3 : Hid (vb = true) := by show _ = _; rw [← hvb.out]; exact decide_eq_true ⟨h1, h2⟩
            go_wp2
            go_meet
            exact ⟨by rw [d3.out], rfl⟩
          · have d2 : decide (0 < wid) = false := decide_eq_false h2
            have d3 : Hid (vb = false) := by show _ = _; rw [← hvb.out]; exact decide_eq_false (fun h => h2 h.2)
            go_wp2
            go_meet
            exact ⟨by rw [d3.out], rfl⟩
        · have d1 : decide ((a : Int) < (fs.length : Int) - 1) = false := decide_eq_false (by omega)
          have d3 : Hid (vb = false) := by show _ = _; rw [← hvb.out]; exact decide_eq_false (fun h => h1 h.1)
          go_wp2
          go_meet
          exact ⟨by rw [d3.out], rfl⟩
      obtain ⟨rfl, rfl⟩ := hcut
      go_upto_if 57 with fail
      trace_state
      go_cut [9] from 58 to 81 (fun tt wx => ∃ A' c' ns, ns = (vallL fs ts a wid sq).length ∧ ConI F H V A' P fc hc vc c' d fs ts vs B (a : Int) wd sq ns (vallL fs ts a wid sq) (bareL fs fs.length) p q (q + 1) bo w wx)
      case first =>
        cases hvb' : vb with
        | false =>
          subst hvb'
          go_wp2
          go_meet
          exact ⟨A, c, fs.length, by rw [vall_no (of_decide_eq_false hvb.out)]; simp, by rw [vall_no (of_decide_eq_false hvb.out)]; exact hI3⟩
        | true =>
          --<valley
          subst hvb'
          obtain ⟨i0, hi, iz0, iz1, iz2⟩ := info_parts Try.infoS
          have hv := of_decide_eq_true hvb.out
          have hs := hI3.s
          have s0 := hs.cell 0; have s1 := hs.cell 1; simp only [List.getElem?_cons_zero, List.getElem?_cons_succ] at s0 s1
          have zs := hs.lt
          have u2 : IntKind.i64.wrap ((a : Int) + 1) = (a : Int) + 1 := by simp (disch := omega) only [IntWalk.i64_in]
          have HCO := hide (fun W h => copyOwn2_c B A c (slabL fs ts) W h (by simp; omega))
          rw [slabL_length] at HCO
          have hal : a + 1 ≤ fs.length := by omega
          go_upto_region 8 with fail
          go_cut [9] from 58 to 70 (fun tt wx => ∃ (A7 : Option Addr) (c7 : Nat), tt = .slice A7 (a + 1 + 1) c7 ∧ wx.ownsRow W3.heap.size 47 2 (.slice A7 (a + 1 + 1) c7) (a + 1 + 1) (gs ((slabL fs ts).take (a + 1) ++ [(sq, wid)])) ∧ Below W3.heap.size W3 wx)
          case first =>
            refine wp_region_held (S := fun w' => (∀ b o, b < W3.heap.size → w'.cell? ⟨b, o, none⟩ = W3.cell? ⟨b, o, none⟩) ∧ Below W3.heap.size W3 w') (by kernel_rfl) ?_
            have hSd : (∀ b o, b < W3.heap.size → W3.drew.cell? ⟨b, o, none⟩ = W3.cell? ⟨b, o, none⟩) ∧ Below W3.heap.size W3 W3.drew := kp (Below.refl _ _).drew
            change wpAnyH _ _ _ _ _ _ _ _ W3.drew
            refine wpAnyH_take (i := 0) (v := ?_) rfl (by kernel_rfl) (by kernel_rfl) (by kernel_rfl) (fun _ _ _ h => h) (Or.inl ⟨by kernel_rfl, ?_⟩) (by assumption) ?_
            rotate_left 1
            · (intro w hSw; obtain ⟨hk1, hk2⟩ := hSw; go_simp <;> with_reducible rfl)
            simp only [Act.put, List.getElem_toArray, List.getElem_cons_zero, List.setIfInBounds_toArray, List.set_cons_zero, List.set_cons_succ]
            refine wpAnyH_take (i := 3) (v := ?_) rfl (by kernel_rfl) (by kernel_rfl) (by kernel_rfl) (fun _ _ _ h => h) (Or.inl ⟨by kernel_rfl, ?_⟩) (by assumption) ?_
            rotate_left 1
            · (intro w hSw; obtain ⟨hk1, hk2⟩ := hSw; go_simp <;> with_reducible rfl)
            simp only [Act.put, List.getElem_toArray, List.getElem_cons_zero, List.getElem_cons_succ, List.setIfInBounds_toArray, List.set_cons_zero, List.set_cons_succ]
            refine wpAnyH_take (i := 4) (v := ?_) rfl (by kernel_rfl) (by kernel_rfl) (by kernel_rfl) (fun _ _ _ h => h) (Or.inl ⟨by kernel_rfl, ?_⟩) (by assumption) ?_
            rotate_left 1
            · (intro w hSw; obtain ⟨hk1, hk2⟩ := hSw; go_simp <;> with_reducible rfl)
            simp only [Act.put, List.getElem_toArray, List.getElem_cons_zero, List.getElem_cons_succ, List.setIfInBounds_toArray, List.set_cons_zero, List.set_cons_succ]
            refine wpAnyH_take (i := 5) (v := ?_) rfl (by kernel_rfl) (by kernel_rfl) (by kernel_rfl) (fun _ _ _ h => h) (Or.inl ⟨by kernel_rfl, ?_⟩) (by assumption) ?_
            rotate_left 1
            · (intro w hSw; obtain ⟨hk1, hk2⟩ := hSw; go_simp <;> with_reducible rfl)
            simp only [Act.put, List.getElem_toArray, List.getElem_cons_zero, List.getElem_cons_succ, List.setIfInBounds_toArray, List.set_cons_zero, List.set_cons_succ]
            refine wpAnyH_take (i := 7) (v := ?_) rfl (by kernel_rfl) (by kernel_rfl) (by kernel_rfl) (fun _ _ _ h => h) (Or.inl ⟨by kernel_rfl, ?_⟩) (by assumption) ?_
            rotate_left 1
            · (intro w hSw; obtain ⟨hk1, hk2⟩ := hSw; go_simp <;> with_reducible rfl)
            simp only [Act.put, List.getElem_toArray, List.getElem_cons_zero, List.getElem_cons_succ, List.setIfInBounds_toArray, List.set_cons_zero, List.set_cons_succ]
            refine wpAnyH_take (i := 8) (v := ?_) rfl (by kernel_rfl) (by kernel_rfl) (by kernel_rfl) (fun _ _ _ h => h) (Or.inl ⟨by kernel_rfl, ?_⟩) (by assumption) ?_
            rotate_left 1
            · (intro w hSw; obtain ⟨hk1, hk2⟩ := hSw; go_simp <;> with_reducible rfl)
            simp only [Act.put, List.getElem_toArray, List.getElem_cons_zero, List.getElem_cons_succ, List.setIfInBounds_toArray, List.set_cons_zero, List.set_cons_succ]
            refine wpAnyH_take (i := 9) (v := ?_) rfl (by kernel_rfl) (by kernel_rfl) (by kernel_rfl) (fun _ _ _ h => h) (Or.inl ⟨by kernel_rfl, ?_⟩) (by assumption) ?_
            rotate_left 1
            · (intro w hSw; obtain ⟨hk1, hk2⟩ := hSw; go_simp <;> with_reducible rfl)
            simp only [Act.put, List.getElem_toArray, List.getElem_cons_zero, List.getElem_cons_succ, List.setIfInBounds_toArray, List.set_cons_zero, List.set_cons_succ]
            refine wpAnyH_take (i := 10) (v := ?_) rfl (by kernel_rfl) (by kernel_rfl) (by kernel_rfl) (fun _ _ _ h => h) (Or.inl ⟨by kernel_rfl, ?_⟩) (by assumption) ?_
            rotate_left 1
            · (intro w hSw; obtain ⟨hk1, hk2⟩ := hSw; go_simp <;> with_reducible rfl)
            simp only [Act.put, List.getElem_toArray, List.getElem_cons_zero, List.getElem_cons_succ, List.setIfInBounds_toArray, List.set_cons_zero, List.set_cons_succ]
            refine nextH2 (i := 1) (j := 11) (by kernel_rfl) rfl rfl (fun K hK => ?_) (fun K hK => ?_)
            · go_simp
              refine (HCO.out _ hI3.a.1.drew).mono ?_
              rintro e w5 ⟨⟨v5, rfl, ho5⟩, hb5⟩
              have ho5 : w5.ownsRow W3.heap.size 47 2 v5 fs.length (gs (slabL fs ts)) := ho5
              obtain ⟨g5, c5, rfl, hg5, hg5', hc5⟩ := own_some ho5 (by omega)
              have hb5' := bel_tr hSd.2 hSd.2.size hb5
              try dsimp only
              refine hK _ _ (kp hb5') ?_
              clear hK K hSd hb5
              have hSd := kp hb5'
              have i5 : (a : Int) + 1 ≤ (c5 : Int) := by omega
              have i6 : (0 : Int) ≤ (a : Int) + 1 := by omega
              have hfl := fun w => field_slabs B (.slice (some ⟨g5, 0, none⟩) fs.length c5) w
              refine wpAnyH_take (i := 2) (v := ?_) rfl (by kernel_rfl) (by kernel_rfl) (by kernel_rfl) (fun _ _ _ h => h) (Or.inl ⟨by kernel_rfl, ?_⟩) (by assumption) ?_
              rotate_left 1
              · (intro w hSw; obtain ⟨hk1, hk2⟩ := hSw; go_simp <;> with_reducible rfl)
              simp only [Act.put, List.getElem_toArray, List.getElem_cons_zero, List.getElem_cons_succ, List.setIfInBounds_toArray, List.set_cons_zero, List.set_cons_succ]
              refine wpAnyH_take (i := 6) (v := ?_) rfl (by kernel_rfl) (by kernel_rfl) (by kernel_rfl) (fun _ _ _ h => h) (Or.inl ⟨by kernel_rfl, ?_⟩) (by assumption) ?_
              rotate_left 1
              · (intro w hSw; obtain ⟨hk1, hk2⟩ := hSw; go_simp <;> with_reducible rfl)
              simp only [Act.put, List.getElem_toArray, List.getElem_cons_zero, List.getElem_cons_succ, List.setIfInBounds_toArray, List.set_cons_zero, List.set_cons_succ]
              refine nextH (i := 11) (by kernel_rfl) rfl (fun K hK => ?_)
              go_simp
              obtain ⟨W6, hW6⟩ : ∃ W, w5.alloc (.cells #[.int .i64 sq, .int .i64 wid] 47) = W := ⟨_, rfl⟩
              obtain ⟨b6, hb6e⟩ : ∃ b, w5.heap.size = b := ⟨_, rfl⟩
              have hb6 : Below W3.heap.size W3 W6 := by rw [← hW6]; exact bel_alloc hb5' hb5'.size _
              have hO6 := own_take ho5 hal
              rw [gs_take_] at hO6
              have hO6 : W6.ownsRow W3.heap.size 47 2 (.slice (some ⟨g5, 0, none⟩) (a + 1) c5) (a + 1) (gs ((slabL fs ts).take (a + 1))) := by rw [← hW6]; exact hO6.alloc _
              have hR6 : Rd W6 (some ⟨b6, 0, none⟩) (gs [(sq, wid)]) := by rw [← hW6, ← hb6e]; exact (Blk.new w5 47 [.int .i64 sq, .int .i64 wid]).rd (List.prefix_refl _)
              rw [hW6, hb6e]
              refine hK _ _ (kp hb6) ?_
              clear hK K hW6 hb6e
              refine nextH (i := 12) (by kernel_rfl) rfl (fun K hK => ?_)
              refine step_append_rd _ (by rfl) _ _ _ (by rfl) W3.heap.size 47 i0 _ 2 16 Try.underlying22 hi iz0 iz1 iz2 rfl (by decide) (.slice (some ⟨g5, 0, none⟩) (a + 1) c5) (a + 1) (gs ((slabL fs ts).take (a + 1))) (by rfl) hO6 (some ⟨b6, 0, none⟩) 1 1 (gs [(sq, wid)]) (by rfl) (by simp) hR6 (gs_one _) (by unfold maxLen; omega) (by omega) hb6.size ?_
              intro v7 W7 hO7 hg7
              obtain ⟨A7, c7, rfl⟩ := ownsRow_slice hO7
              have hb7 : Below W3.heap.size W3 W7 := hb6.grown hg7 hb6.size (fun j hj => (hO6.lt j hj).1)
              simp only [Act.put, List.getElem_toArray, List.getElem_cons_zero, List.getElem_cons_succ, List.setIfInBounds_toArray, List.set_cons_zero, List.set_cons_succ]
              refine hK _ _ (kp hb7) ?_
              clear hK K
              refine nextH (i := 13) (by kernel_rfl) rfl (fun K hK => ?_)
              go_simp
              refine hK _ _ (kp hb7) ?_
              clear hK K
              refine wpAnyH_done (by kernel_rfl) ?_ _
              rw [← gs_append] at hO7
              go_wp2
              go_meet
              exact ⟨A7, c7, rfl, hO7, hb7⟩
            · go_simp
              obtain ⟨W4, hW4⟩ : ∃ W, (W3.alloc (.cells #[.int .i64 sq, .int .i64 wid] 47)).drew = W := ⟨_, rfl⟩
              have hb4 : Below W3.heap.size W3 W4 := by rw [← hW4]; exact (alloc_bel _ _).drew
              have hR4 : Rd W4 (some ⟨W3.heap.size, 0, none⟩) (gs [(sq, wid)]) := by rw [← hW4]; exact ((Blk.new W3 47 [.int .i64 sq, .int .i64 wid]).rd (List.prefix_refl _)).drew
              rw [hW4]
              refine hK _ _ (kp hb4) ?_
              clear hK K hSd
              refine nextH (i := 1) (by kernel_rfl) rfl (fun K hK => ?_)
              go_simp
              refine (HCO.out _ (hI3.a.1.bel hb4)).mono ?_
              rintro e w5 ⟨⟨v5, rfl, ho5⟩, hb5⟩
              have ho5 : w5.ownsRow W3.heap.size 47 2 v5 fs.length (gs (slabL fs ts)) := World.ownsRow.mono ho5 hb4.size
              obtain ⟨g5, c5, rfl, hg5, hg5', hc5⟩ := own_some ho5 (by omega)
              have hb6 := bel_tr hb4 hb4.size hb5
              have hR6 := hR4.bel hb5
              try dsimp only
              refine hK _ _ (kp hb6) ?_
              clear hK K hb5
              have hSd := kp hb6
              have i5 : (a : Int) + 1 ≤ (c5 : Int) := by omega
              have i6 : (0 : Int) ≤ (a : Int) + 1 := by omega
              have hfl := fun w => field_slabs B (.slice (some ⟨g5, 0, none⟩) fs.length c5) w
              refine wpAnyH_take (i := 2) (v := ?_) rfl (by kernel_rfl) (by kernel_rfl) (by kernel_rfl) (fun _ _ _ h => h) (Or.inl ⟨by kernel_rfl, ?_⟩) (by assumption) ?_
              rotate_left 1
              · (intro w hSw; obtain ⟨hk1, hk2⟩ := hSw; go_simp <;> with_reducible rfl)
              simp only [Act.put, List.getElem_toArray, List.getElem_cons_zero, List.getElem_cons_succ, List.setIfInBounds_toArray, List.set_cons_zero, List.set_cons_succ]
              refine wpAnyH_take (i := 6) (v := ?_) rfl (by kernel_rfl) (by kernel_rfl) (by kernel_rfl) (fun _ _ _ h => h) (Or.inl ⟨by kernel_rfl, ?_⟩) (by assumption) ?_
              rotate_left 1
              · (intro w hSw; obtain ⟨hk1, hk2⟩ := hSw; go_simp <;> with_reducible rfl)
              simp only [Act.put, List.getElem_toArray, List.getElem_cons_zero, List.getElem_cons_succ, List.setIfInBounds_toArray, List.set_cons_zero, List.set_cons_succ]
              have hO6 := own_take ho5 hal
              rw [gs_take_] at hO6
              refine nextH (i := 12) (by kernel_rfl) rfl (fun K hK => ?_)
              refine step_append_rd _ (by rfl) _ _ _ (by rfl) W3.heap.size 47 i0 _ 2 16 Try.underlying22 hi iz0 iz1 iz2 rfl (by decide) (.slice (some ⟨g5, 0, none⟩) (a + 1) c5) (a + 1) (gs ((slabL fs ts).take (a + 1))) (by rfl) hO6 (some ⟨W3.heap.size, 0, none⟩) 1 1 (gs [(sq, wid)]) (by rfl) (by simp) hR6 (gs_one _) (by unfold maxLen; omega) (by omega) hb6.size ?_
              intro v7 W7 hO7 hg7
              obtain ⟨A7, c7, rfl⟩ := ownsRow_slice hO7
              have hb7 : Below W3.heap.size W3 W7 := hb6.grown hg7 hb6.size (fun j hj => (hO6.lt j hj).1)
              simp only [Act.put, List.getElem_toArray, List.getElem_cons_zero, List.getElem_cons_succ, List.setIfInBounds_toArray, List.set_cons_zero, List.set_cons_succ]
              refine hK _ _ (kp hb7) ?_
              clear hK K
              refine nextH (i := 13) (by kernel_rfl) rfl (fun K hK => ?_)
              go_simp
              refine hK _ _ (kp hb7) ?_
              clear hK K
              refine wpAnyH_done (by kernel_rfl) ?_ _
              rw [← gs_append] at hO7
              go_wp2
              go_meet
              exact ⟨A7, c7, rfl, hO7, hb7⟩
          obtain ⟨A7, c7, rfl, hO7, hb7⟩ := hcut
          obtain ⟨W7, rfl⟩ : ∃ W7 : World, W7 = wc := ⟨_, rfl⟩
          have hI7 := hI3.next hb7
          clear c0 c1 c2 c3 c4 c5 c6 z0 hx s0 s1 zs hs HCO
          obtain ⟨ab, ao, rfl, hab, _, _⟩ := hI7.a.1.g_at (show a + 1 < (slabL fs ts).length by simp; omega)
          have hx7 := hI7.x
          have c0 := hx7.cell 0; have c1 := hx7.cell 1; simp only [List.getElem?_cons_zero, List.getElem?_cons_succ] at c0 c1
          have c2 := hx7.cell 2
          have c3 := hx7.cell 3
          have c4 := hx7.cell 4
          have c5 := hx7.cell 5
          have c6 := hx7.cell 6
          simp only [List.getElem?_cons_zero, List.getElem?_cons_succ] at c2 c3 c4 c5 c6
          have z0 := hx7.lt
          have hs7 := hI7.s
          have s0 := hs7.cell 0; have s1 := hs7.cell 1; simp only [List.getElem?_cons_zero, List.getElem?_cons_succ] at s0 s1
          have zs := hs7.lt
          have u3 : (c = a + 1) = False := eq_false (by omega)
          have i5 : (a : Int) + 1 ≤ (fs.length : Int) := by omega
          have i6 : (0 : Int) ≤ (a : Int) + 1 := by omega
          have hR9 := hI7.a.1.gs_drop (a + 1)
          have hdl : ((slabL fs ts).drop (a + 1)).length = fs.length - (a + 1) := by simp
          go_upto_region 9 with fail
          refine wp_region_M (fun w' => w'.cell? ⟨q, 0, none⟩ = some (.int .i64 B) ∧ w'.cell? ⟨q, 1, none⟩ = some (.slice (some ⟨ab, ao, none⟩) fs.length c) ∧ w'.cell? ⟨p, 4, none⟩ = some (.int .i64 (a : Int))) 11 (by kernel_rfl) ?_
          have hSd : W7.drew.cell? ⟨q, 0, none⟩ = some (.int .i64 B) ∧ W7.drew.cell? ⟨q, 1, none⟩ = some (.slice (some ⟨ab, ao, none⟩) fs.length c) ∧ W7.drew.cell? ⟨p, 4, none⟩ = some (.int .i64 (a : Int)) := ⟨s0, s1, c4⟩
          refine AnyM.take (i := 0) (v := ?_) rfl (by kernel_rfl) (by kernel_rfl) (by kernel_rfl) (by kernel_rfl) (fun _ _ _ h => h) (Or.inl ⟨by rfl, ?_⟩) (by assumption) ?_
          rotate_left 1
          · (intro w hSw; obtain ⟨hk1, hk2, hk3⟩ := hSw; go_simp <;> with_reducible rfl)
          simp only [Act.put, List.getElem_toArray, List.getElem_cons_zero, List.setIfInBounds_toArray, List.set_cons_zero, List.set_cons_succ]
          refine AnyM.take (i := 1) (v := ?_) rfl (by kernel_rfl) (by kernel_rfl) (by kernel_rfl) (by kernel_rfl) (fun _ _ _ h => h) (Or.inl ⟨by rfl, ?_⟩) (by assumption) ?_
          rotate_left 1
          · (intro w hSw; obtain ⟨hk1, hk2, hk3⟩ := hSw; go_simp <;> with_reducible rfl)
          simp only [Act.put, List.getElem_toArray, List.getElem_cons_zero, List.getElem_cons_succ, List.setIfInBounds_toArray, List.set_cons_zero, List.set_cons_succ]
          refine AnyM.take (i := 2) (v := ?_) rfl (by kernel_rfl) (by kernel_rfl) (by kernel_rfl) (by kernel_rfl) (fun _ _ _ h => h) (Or.inl ⟨by rfl, ?_⟩) (by assumption) ?_
          rotate_left 1
          · (intro w hSw; obtain ⟨hk1, hk2, hk3⟩ := hSw; go_simp <;> with_reducible rfl)
          simp only [Act.put, List.getElem_toArray, List.getElem_cons_zero, List.getElem_cons_succ, List.setIfInBounds_toArray, List.set_cons_zero, List.set_cons_succ]
          refine AnyM.take (i := 3) (v := ?_) rfl (by kernel_rfl) (by kernel_rfl) (by kernel_rfl) (by kernel_rfl) (fun _ _ _ h => h) (Or.inl ⟨by rfl, ?_⟩) (by assumption) ?_
          rotate_left 1
          · (intro w hSw; obtain ⟨hk1, hk2, hk3⟩ := hSw; go_simp <;> with_reducible rfl)
          simp only [Act.put, List.getElem_toArray, List.getElem_cons_zero, List.getElem_cons_succ, List.setIfInBounds_toArray, List.set_cons_zero, List.set_cons_succ]
          refine AnyM.take (i := 4) (v := ?_) rfl (by kernel_rfl) (by kernel_rfl) (by kernel_rfl) (by kernel_rfl) (fun _ _ _ h => h) (Or.inl ⟨by rfl, ?_⟩) (by assumption) ?_
          rotate_left 1
          · (intro w hSw; obtain ⟨hk1, hk2, hk3⟩ := hSw; go_simp <;> with_reducible rfl)
          simp only [Act.put, List.getElem_toArray, List.getElem_cons_zero, List.getElem_cons_succ, List.setIfInBounds_toArray, List.set_cons_zero, List.set_cons_succ]
          refine AnyM.take (i := 5) (v := ?_) rfl (by kernel_rfl) (by kernel_rfl) (by kernel_rfl) (by kernel_rfl) (fun _ _ _ h => h) (Or.inl ⟨by rfl, ?_⟩) (by assumption) ?_
          rotate_left 1
          · (intro w hSw; obtain ⟨hk1, hk2, hk3⟩ := hSw; go_simp <;> with_reducible rfl)
          simp only [Act.put, List.getElem_toArray, List.getElem_cons_zero, List.getElem_cons_succ, List.setIfInBounds_toArray, List.set_cons_zero, List.set_cons_succ]
          refine AnyM.take (i := 6) (v := ?_) rfl (by kernel_rfl) (by kernel_rfl) (by kernel_rfl) (by kernel_rfl) (fun _ _ _ h => h) (Or.inl ⟨by rfl, ?_⟩) (by assumption) ?_
          rotate_left 1
          · (intro w hSw; obtain ⟨hk1, hk2, hk3⟩ := hSw; go_simp <;> with_reducible rfl)
          simp only [Act.put, List.getElem_toArray, List.getElem_cons_zero, List.getElem_cons_succ, List.setIfInBounds_toArray, List.set_cons_zero, List.set_cons_succ]
          refine AnyM.take (i := 7) (v := ?_) rfl (by kernel_rfl) (by kernel_rfl) (by kernel_rfl) (by kernel_rfl) (fun _ _ _ h => h) (Or.inl ⟨by rfl, ?_⟩) (by assumption) ?_
          rotate_left 1
          · (intro w hSw; obtain ⟨hk1, hk2, hk3⟩ := hSw; go_simp <;> with_reducible rfl)
          simp only [Act.put, List.getElem_toArray, List.getElem_cons_zero, List.getElem_cons_succ, List.setIfInBounds_toArray, List.set_cons_zero, List.set_cons_succ]
          refine AnyM.take (i := 8) (v := ?_) rfl (by kernel_rfl) (by kernel_rfl) (by kernel_rfl) (by kernel_rfl) (fun _ _ _ h => h) (Or.inl ⟨by rfl, ?_⟩) (by assumption) ?_
          rotate_left 1
          · (intro w hSw; obtain ⟨hk1, hk2, hk3⟩ := hSw; go_simp <;> with_reducible rfl)
          simp only [Act.put, List.getElem_toArray, List.getElem_cons_zero, List.getElem_cons_succ, List.setIfInBounds_toArray, List.set_cons_zero, List.set_cons_succ]
          refine AnyM.next [9] (by kernel_rfl) (by simp) ?_
          refine NextM.cons rfl (fun K hK => ?_) NextM.nil
          refine step_append_rd _ (by rfl) _ _ _ (by rfl) W3.heap.size 47 i0 _ 2 16 Try.underlying22 hi iz0 iz1 iz2 rfl (by decide) (.slice A7 (a + 1 + 1) c7) (a + 1 + 1) (gs ((slabL fs ts).take (a + 1) ++ [(sq, wid)])) (by rfl) hO7.drew (some ⟨ab, ao + (a + 1) * 2, none⟩) (fs.length - (a + 1)) (c - (a + 1)) (gs ((slabL fs ts).drop (a + 1))) (by rfl) (by rw [gs_length, hdl]) hR9.drew (gs_one _) (by unfold maxLen; omega) (by omega) hb7.size ?_
          intro v8 W8 hO8 hg8
          obtain ⟨A8, c8, rfl⟩ := ownsRow_slice hO8
          have hX8 : Blk W8 p _ _ := (hg8.block p hx7.lt (fun e => by have := (hO7.lt p e.symm).1; have := hI3.x.lt; omega)).trans hx7
          have hS8 : Blk W8 q _ _ := (hg8.block q hs7.lt (fun e => by have := (hO7.lt q e.symm).1; have := hI3.s.lt; omega)).trans hs7
          have hT8 : Blk W8 (q + 1) _ _ := (hg8.block (q + 1) hI7.t.lt (fun e => by have := (hO7.lt (q + 1) e.symm).1; have := hI3.t.lt; omega)).trans hI7.t
          have hP8 := row_grown0 hI7.o.drew hO7.drew (by decide) hg8
          have hB8 : Below p w W8 := hI7.b.drew.grown hg8 (Nat.le_of_lt hx7.lt) (fun j hj => by have := (hO7.lt j hj).1; have := hI3.x.lt; omega)
          have hSd : W8.cell? ⟨q, 0, none⟩ = some (.int .i64 B) ∧ W8.cell? ⟨q, 1, none⟩ = some (.slice (some ⟨ab, ao, none⟩) fs.length c) ∧ W8.cell? ⟨p, 4, none⟩ = some (.int .i64 (a : Int)) := ⟨hS8.cell 0, hS8.cell 1, hX8.cell 4⟩
          simp only [Act.put, List.getElem_toArray, List.getElem_cons_zero, List.getElem_cons_succ, List.setIfInBounds_toArray, List.set_cons_zero, List.set_cons_succ]
          refine hK _ _ (fun _ => hSd) ?_
          clear hK K
          refine AnyM.next [10] (by kernel_rfl) (by simp) ?_
          refine NextM.cons rfl (fun K hK => ?_) NextM.nil
          go_simp
          refine hK _ _ (fun _ => hSd) ?_
          clear hK K
          have r0 := hS8.cell 0
          have r1 := hS8.cell 1
          have r2 := hS8.frozen 0
          have r3 := hS8.frozen 1
          have r4 := hS8.lt
          simp only [List.getElem?_cons_zero, List.getElem?_cons_succ] at r0 r1
          refine AnyM.next [11] (by kernel_rfl) (by simp) ?_
          refine NextM.cons rfl (fun K hK => ?_) NextM.nil
          go_simp
          refine hK _ _ (fun h => by simp at h) ?_
          clear hK K
          refine AnyM.done (by kernel_rfl) ?_ _
          obtain ⟨W9, hW9⟩ : ∃ W, (W8.setCell ⟨q, 0, none⟩ (.int .i64 B)).setCell ⟨q, 1, none⟩ (.slice A8 (a + 1 + 1 + (fs.length - (a + 1))) c8) = W := ⟨_, rfl⟩
          have hp1 := hI3.q1
          have hO8 := hO8
          rw [← gs_append] at hO8
          have hvl : (slabL fs ts).take (a + 1) ++ [(sq, wid)] ++ (slabL fs ts).drop (a + 1) = vallL fs ts a wid sq := by unfold vallL; rw [if_pos hv]
          rw [hvl] at hO8
          have hI9 : ConI F H V A8 P fc hc vc c8 d fs ts vs B (a : Int) wd sq (a + 1 + 1 + (fs.length - (a + 1))) (vallL fs ts a wid sq) (bareL fs fs.length) p q (q + 1) bo w W9 := by
            rw [← hW9]
            exact ⟨(hX8.far (by show p ≠ q; omega) _).far (by show p ≠ q; omega) _, (hS8.set_ 0 _).set_ 1 _, (hT8.far (by show q + 1 ≠ q; omega) _).far (by show q + 1 ≠ q; omega) _, ((RdT.of_own hO8).keep (KeepT.setCell hS8 (by decide) 0 _)).keep (KeepT.setCell (hS8.set_ 0 _) (by decide) 1 _), own_setT (own_setT hP8 hS8 (by decide) 0 _) (hS8.set_ 0 _) (by decide) 1 _, (hB8.setCell (by show p ≤ q; omega) _).setCell (by show p ≤ q; omega) _, hI3.q1, hI3.q2, hI3.q3⟩
          rw [hW9]
          go_wp2
          go_meet
          exact ⟨A8, c8, _, by rw [vall_length hv]; omega, hI9⟩
          -->valley
      obtain ⟨A', c', ns, hns, hI4⟩ := hcut
      obtain ⟨V4, rfl⟩ : ∃ V4 : World, V4 = wc := ⟨_, rfl⟩
      have HS : Hid (Samp fs ts B a wid wd sq) := HPRE.out.samp hwd.1 hwd.2 hsq.out.1 hsq.out.2
      have hns14 : ns ≤ 1000 := by rw [hns]; unfold vallL; split <;> simp <;> omega
      have HCO := hide (fun W h => copy_c B A' c' (vallL fs ts a wid sq) W h (by rw [← hns]; exact hns14))
      have HRE : Hid (∀ k, k < fs.length → ∀ A c W, Rd W A (gs (vallL fs ts a wid sq)) → Calls Try.prog 16 #[.agg #[.int .i64 B, .slice A ns c], .int .i64 (fs.getD k 0)] W fun r w' => r = .returned (.tuple #[.int .i64 (hK fs ts B a wid sq k), .int .i64 (vpos fs a wid k), .int .i64 0]) ∧ Below W.heap.size W w') := fun k hk A c W h => by
        have := reflectedAt_c B (fs.getD k 0) A c (vallL fs ts a wid sq) W h (by rw [← hns]; exact hns14)
        rw [HS.out.refl' hk, ← hns] at this
        exact this
      have HVI : Hid (∀ k, k < fs.length → ∀ A c W, Rd W A (gs (vallL fs ts a wid sq)) → Calls Try.prog 17 #[.agg #[.int .i64 B, .slice A ns c], .int .i64 (fs.getD k 0)] W fun r w' => r = .returned (.tuple #[.agg #[.int .i64 (vK fs ts B a wid sq k).1, .int .i64 (vK fs ts B a wid sq k).2], .int .i64 0]) ∧ Below W.heap.size W w') := fun k hk A c W h => by
        have := virtualAt_c B (fs.getD k 0) A c (vallL fs ts a wid sq) W h (by rw [← hns]; exact hns14)
        rw [HS.out.virt' hk, ← hns] at this
        exact this
      rw [← hns] at HCO
      generalize hVL : vallL fs ts a wid sq = VL at HCO HRE HVI hI4 hns
      have HVBD : Hid (∀ k, k < fs.length → 0 ≤ (vK fs ts B a wid sq k).1 ∧ (vK fs ts B a wid sq k).1 ≤ (vK fs ts B a wid sq k).2 ∧ (vK fs ts B a wid sq k).2 ≤ 1000000000) := fun k hk => HS.out.vbd hk
      have hnsH := hide hns
      clear hns hVL hI3 c0 c1 c2 c3 c4 c5 c6 z0 hx hvb HWI
      obtain ⟨i0, hi, iz0, iz1, iz2⟩ := info_parts Try.infoZ
      have HZ0 : ConI F H V A' P fc hc vc c' d fs ts vs B (a : Int) wd sq ns VL (pixL fs ts vs B a wid sq 0) p q (q + 1) bo w V4 := by rw [pixL_zero]; exact hI4
      obtain ⟨b1, hb1⟩ : ∃ b1, V4.heap.size = b1 := ⟨_, rfl⟩
      have hpb1' : p ≤ b1 := by rw [← hb1]; exact Nat.le_of_lt hI4.x.lt
      go_upto_region 11 with fail
      go_wp2
      go_loopw [10, 11] (fun hv x wr => ∃ k : Nat, k ≤ fs.length ∧ x = .int .i64 k ∧ ConI F H V A' P fc hc vc c' d fs ts vs B (a : Int) wd sq ns VL (pixL fs ts vs B a wid sq k) p q (q + 1) bo w wr ∧ wr.ownsRow b1 3 1 hv k (ints (hgtL fs ts B a wid sq k)) ∧ b1 ≤ wr.heap.size) (fun _ x _ => fs.length - (intOf x).toNat)
      case atStart => exact ⟨0, Nat.zero_le _, rfl, HZ0, World.ownsRow_nil _ _ _ _, by omega⟩
      case round =>
        obtain ⟨k, hk, rfl, hIr, hHr, hbr⟩ := hrel
        by_cases hlt : k < fs.length
        · --<round1
          have hki : (k : Int) < (fs.length : Int) := by omega
          have hFr := HF.out _ hIr.b
          have hVr := HV.out _ hIr.b
          obtain ⟨fb, fo, rfl, hfb, x0⟩ := hFr.int_at hlt
          rw [← getD_at hlt 0] at x0
          have HRK := hide (HRE.out k hlt)
          have HVK := hide (HVI.out k hlt)
          have hvbd := HVBD.out k hlt
          obtain ⟨hk0, hhk0⟩ : ∃ h, hK fs ts B a wid sq k = h := ⟨_, rfl⟩
          obtain ⟨vp, hvp⟩ : ∃ v : Int, (vpos fs a wid k : Int) = v := ⟨_, rfl⟩
          obtain ⟨v1, hv1⟩ : ∃ v, (vK fs ts B a wid sq k).1 = v := ⟨_, rfl⟩
          obtain ⟨v2, hv2⟩ : ∃ v, (vK fs ts B a wid sq k).2 = v := ⟨_, rfl⟩
          rw [hhk0, hvp] at HRK
          rw [hv1, hv2] at HVK hvbd
          have HPS := hide (pixL_succ (ts := ts) (vs := vs) (B := B) (af := a) (w := wid) (sq := sq) hlt)
          have HHS := hide (hgtL_succ fs ts B a wid sq k)
          have HPT : Hid (ptK fs ts vs B a wid sq k = (fs.getD k 0, max 0 (v1 - vs.getD k 0), v2 + vs.getD k 0)) := by show _ = _; unfold ptK; rw [hv1, hv2]
          rw [hhk0] at HHS
          clear hhk0 hvp hv1 hv2
          obtain ⟨f, hf⟩ : ∃ f, fs.getD k 0 = f := ⟨_, rfl⟩
          rw [hf] at HRK HVK HPT x0
          have HFK := hide hf
          clear hf
          have hX := hIr.x
          have c0 := hX.cell 0; have c1 := hX.cell 1; simp only [List.getElem?_cons_zero, List.getElem?_cons_succ] at c0 c1
          have c2 := hX.cell 2
          have c3 := hX.cell 3
          have c4 := hX.cell 4
          have c5 := hX.cell 5
          have c6 := hX.cell 6
          simp only [List.getElem?_cons_zero, List.getElem?_cons_succ] at c2 c3 c4 c5 c6
          have z0 := hX.lt
          have hs := hIr.s
          have s0 := hs.cell 0; have s1 := hs.cell 1; simp only [List.getElem?_cons_zero, List.getElem?_cons_succ] at s0 s1
          have zs := hs.lt
          go_upto_region 14 with fail
          go_cut [12, 13, 14] from 82 to 156 (fun t u v wx => t = .int .i64 hk0 ∧ u = .int .i64 vp ∧ v = .int .i64 0 ∧ Below wr.heap.size wr wx)
          case first =>
            --<r14
            refine wp_region_held (S := fun w' => (∀ b o, b < wr.heap.size → w'.cell? ⟨b, o, none⟩ = wr.cell? ⟨b, o, none⟩) ∧ Below wr.heap.size wr w') (by kernel_rfl) ?_
            have hSd : (∀ b o, b < wr.heap.size → wr.drew.cell? ⟨b, o, none⟩ = wr.cell? ⟨b, o, none⟩) ∧ Below wr.heap.size wr wr.drew := kp (Below.refl _ _).drew
            change wpAnyH _ _ _ _ _ _ _ _ wr.drew
            refine wpAnyH_take (i := 0) (v := ?_) rfl (by kernel_rfl) (by kernel_rfl) (by kernel_rfl) (fun _ _ _ h => h) (Or.inl ⟨by kernel_rfl, ?_⟩) (by assumption) ?_
            rotate_left 1
            · (intro w hSw; obtain ⟨hk1, hk2⟩ := hSw; go_simp <;> with_reducible rfl)
            simp only [Act.put, List.getElem_toArray, List.getElem_cons_zero, List.setIfInBounds_toArray, List.set_cons_zero, List.set_cons_succ]
            refine wpAnyH_take (i := 2) (v := ?_) rfl (by kernel_rfl) (by kernel_rfl) (by kernel_rfl) (fun _ _ _ h => h) (Or.inl ⟨by kernel_rfl, ?_⟩) (by assumption) ?_
            rotate_left 1
            · (intro w hSw; obtain ⟨hk1, hk2⟩ := hSw; go_simp <;> with_reducible rfl)
            simp only [Act.put, List.getElem_toArray, List.getElem_cons_zero, List.getElem_cons_succ, List.setIfInBounds_toArray, List.set_cons_zero, List.set_cons_succ]
            refine wpAnyH_take (i := 3) (v := ?_) rfl (by kernel_rfl) (by kernel_rfl) (by kernel_rfl) (fun _ _ _ h => h) (Or.inl ⟨by kernel_rfl, ?_⟩) (by assumption) ?_
            rotate_left 1
            · (intro w hSw; obtain ⟨hk1, hk2⟩ := hSw; go_simp <;> with_reducible rfl)
            simp only [Act.put, List.getElem_toArray, List.getElem_cons_zero, List.getElem_cons_succ, List.setIfInBounds_toArray, List.set_cons_zero, List.set_cons_succ]
            refine wpAnyH_take (i := 4) (v := ?_) rfl (by kernel_rfl) (by kernel_rfl) (by kernel_rfl) (fun _ _ _ h => h) (Or.inl ⟨by kernel_rfl, ?_⟩) (by assumption) ?_
            rotate_left 1
            · (intro w hSw; obtain ⟨hk1, hk2⟩ := hSw; go_simp <;> with_reducible rfl)
            simp only [Act.put, List.getElem_toArray, List.getElem_cons_zero, List.getElem_cons_succ, List.setIfInBounds_toArray, List.set_cons_zero, List.set_cons_succ]
            refine wpAnyH_take (i := 5) (v := ?_) rfl (by kernel_rfl) (by kernel_rfl) (by kernel_rfl) (fun _ _ _ h => h) (Or.inl ⟨by kernel_rfl, ?_⟩) (by assumption) ?_
            rotate_left 1
            · (intro w hSw; obtain ⟨hk1, hk2⟩ := hSw; go_simp <;> with_reducible rfl)
            simp only [Act.put, List.getElem_toArray, List.getElem_cons_zero, List.getElem_cons_succ, List.setIfInBounds_toArray, List.set_cons_zero, List.set_cons_succ]
            refine wpAnyH_take (i := 6) (v := ?_) rfl (by kernel_rfl) (by kernel_rfl) (by kernel_rfl) (fun _ _ _ h => h) (Or.inl ⟨by kernel_rfl, ?_⟩) (by assumption) ?_
            rotate_left 1
            · (intro w hSw; obtain ⟨hk1, hk2⟩ := hSw; go_simp <;> with_reducible rfl)
            simp only [Act.put, List.getElem_toArray, List.getElem_cons_zero, List.getElem_cons_succ, List.setIfInBounds_toArray, List.set_cons_zero, List.set_cons_succ]
            refine nextH (i := 1) (by kernel_rfl) rfl (fun K hK => ?_)
            go_simp
            refine (HCO.out _ hIr.a.1.drew).mono ?_
            rintro e w5 ⟨⟨A5, c5', rfl, hr5⟩, hb5⟩
            have hb5' := bel_tr hSd.2 hSd.2.size hb5
            try dsimp only
            refine hK _ _ (kp hb5') ?_
            clear hK K hSd
            refine nextH (i := 7) (by kernel_rfl) rfl (fun K hK => ?_)
            go_simp
            refine (HRK.out _ _ _ hr5).mono ?_
            rintro e w6 ⟨rfl, hb6⟩
            have hb6' := bel_tr hb5' hb5'.size hb6
            have hSd := kp hb6'
            try dsimp only
            refine hK _ _ hSd ?_
            clear hK K
            refine wpAnyH_take (i := 8) (v := ?_) rfl (by kernel_rfl) (by kernel_rfl) (by kernel_rfl) (fun _ _ _ h => h) (Or.inl ⟨by kernel_rfl, ?_⟩) (by assumption) ?_
            rotate_left 1
            · (intro w hSw; obtain ⟨hk1, hk2⟩ := hSw; go_simp <;> with_reducible rfl)
            simp only [Act.put, List.getElem_toArray, List.getElem_cons_zero, List.getElem_cons_succ, List.setIfInBounds_toArray, List.set_cons_zero, List.set_cons_succ]
            refine wpAnyH_take (i := 9) (v := ?_) rfl (by kernel_rfl) (by kernel_rfl) (by kernel_rfl) (fun _ _ _ h => h) (Or.inl ⟨by kernel_rfl, ?_⟩) (by assumption) ?_
            rotate_left 1
            · (intro w hSw; obtain ⟨hk1, hk2⟩ := hSw; go_simp <;> with_reducible rfl)
            simp only [Act.put, List.getElem_toArray, List.getElem_cons_zero, List.getElem_cons_succ, List.setIfInBounds_toArray, List.set_cons_zero, List.set_cons_succ]
            refine wpAnyH_take (i := 10) (v := ?_) rfl (by kernel_rfl) (by kernel_rfl) (by kernel_rfl) (fun _ _ _ h => h) (Or.inl ⟨by kernel_rfl, ?_⟩) (by assumption) ?_
            rotate_left 1
            · (intro w hSw; obtain ⟨hk1, hk2⟩ := hSw; go_simp <;> with_reducible rfl)
            simp only [Act.put, List.getElem_toArray, List.getElem_cons_zero, List.getElem_cons_succ, List.setIfInBounds_toArray, List.set_cons_zero, List.set_cons_succ]
            refine wpAnyH_take (i := 11) (v := ?_) rfl (by kernel_rfl) (by kernel_rfl) (by kernel_rfl) (fun _ _ _ h => h) (Or.inl ⟨by kernel_rfl, ?_⟩) (by assumption) ?_
            rotate_left 1
            · (intro w hSw; obtain ⟨hk1, hk2⟩ := hSw; go_simp <;> with_reducible rfl)
            simp only [Act.put, List.getElem_toArray, List.getElem_cons_zero, List.getElem_cons_succ, List.setIfInBounds_toArray, List.set_cons_zero, List.set_cons_succ]
            refine nextH (i := 12) (by kernel_rfl) rfl (fun K hK => ?_)
            go_simp
            refine hK _ _ hSd ?_
            clear hK K
            refine nextH (i := 13) (by kernel_rfl) rfl (fun K hK => ?_)
            go_simp
            refine hK _ _ hSd ?_
            clear hK K
            refine nextH (i := 14) (by kernel_rfl) rfl (fun K hK => ?_)
            go_simp
            refine hK _ _ hSd ?_
            clear hK K
            refine wpAnyH_done (by kernel_rfl) ?_ _
            go_wp2
            go_meet
            exact ⟨rfl, rfl, rfl, hb6'⟩
            -->r14
          obtain ⟨rfl, rfl, rfl, hbc⟩ := hcut
          obtain ⟨w14, rfl⟩ : ∃ w14 : World, w14 = wc := ⟨_, rfl⟩
          have hI14 := hIr.next hbc
          have hH14 := ownsRow_bel hHr hbc
          have hbr14 : b1 ≤ w14.heap.size := by have := hbc.size; omega
          have x014 : w14.cell? ⟨fb, fo + k, none⟩ = some (.int .i64 f) := (hbc.cell (p := ⟨fb, fo + k, none⟩) hfb).trans x0
          have hfb14 : fb < w14.heap.size := by have := hbc.size; omega
          have hr14 := hI14.a.1
          clear c0 c1 c2 c3 c4 c5 c6 z0 hX s0 s1 zs hs hbc HRK hHr hIr x0 hbr
          have hX := hI14.x
          have c0 := hX.cell 0; have c1 := hX.cell 1; simp only [List.getElem?_cons_zero, List.getElem?_cons_succ] at c0 c1
          have c2 := hX.cell 2
          have c3 := hX.cell 3
          have c4 := hX.cell 4
          have c5 := hX.cell 5
          have c6 := hX.cell 6
          simp only [List.getElem?_cons_zero, List.getElem?_cons_succ] at c2 c3 c4 c5 c6
          have z0 := hX.lt
          have hs := hI14.s
          have s0 := hs.cell 0; have s1 := hs.cell 1; simp only [List.getElem?_cons_zero, List.getElem?_cons_succ] at s0 s1
          have zs := hs.lt
          go_upto_region 15 with fail
          go_cut [15, 16] from 82 to 156 (fun t u wx => ∃ g : Nat, t = .pointer (some ⟨g, 0, none⟩) ∧ u = .int .i64 0 ∧ Blk wx g 51 [.int .i64 v1, .int .i64 v2] ∧ w14.heap.size ≤ g ∧ Below w14.heap.size w14 wx)
          case first =>
            --<r15
            go_region_held3 (fun w' => (∀ b o, b < w14.heap.size → w'.cell? ⟨b, o, none⟩ = w14.cell? ⟨b, o, none⟩) ∧ Below w14.heap.size w14 w')
              ((refine kp ?_; (repeat' (first | with_reducible exact Below.refl _ _ | with_reducible exact HC2.out | with_reducible exact HC1.out | with_reducible refine Below.drew ?_ | with_reducible refine bel_alloc ?_ ?_ _ | with_reducible refine Below.setCell ?_ ?_ _)); all_goals (first | omega | (simp <;> omega))))
              (first
                | (go_at_call 9; refine (HCO.out _ ?_).mono ?_; exact hr14.bel (by (repeat' (first | with_reducible exact Below.refl _ _ | with_reducible exact HC2.out | with_reducible exact HC1.out | with_reducible refine Below.drew ?_ | with_reducible refine bel_alloc ?_ ?_ _ | with_reducible refine Below.setCell ?_ ?_ _)); all_goals (first | omega | (simp <;> omega))); rintro e_ wA ⟨⟨A4, q4, rfl, hra⟩, hbA⟩; have HC1 : Hid (Below w14.heap.size w14 wA) := (by refine hide (Below.trans ?_ (hbA.mono ?_)); (repeat' (first | with_reducible exact Below.refl _ _ | with_reducible exact HC2.out | with_reducible exact HC1.out | with_reducible refine Below.drew ?_ | with_reducible refine bel_alloc ?_ ?_ _ | with_reducible refine Below.setCell ?_ ?_ _)); all_goals (first | omega | (simp <;> omega))); have sC1 := HC1.out.size; have hA1 := hbA.size; (try (refine (have BA : Blk wA w14.heap.size 51 [.int .i64 0, .int .i64 0] := ?_; ?_); (focus (refine Blk.bel ?_ hbA; first | exact Blk.new w14 _ [_, _] | exact Blk.new w14.drew _ [_, _]; done)); have BAc0 := BA.cell 0; have BAc1 := BA.cell 1; have BAf0 := BA.frozen 0; have BAf1 := BA.frozen 1; have BAl := BA.lt; simp only [List.getElem?_cons_zero, List.getElem?_cons_succ] at BAc0 BAc1)))
                | (go_at_call 17; refine (HVK.out A4 q4 _ (by first | exact hra | exact hra.drew | exact hra.alloc _ | exact hra.bel (by (repeat' (first | with_reducible exact Below.refl _ _ | with_reducible exact HC2.out | with_reducible exact HC1.out | with_reducible refine Below.drew ?_ | with_reducible refine bel_alloc ?_ ?_ _ | with_reducible refine Below.setCell ?_ ?_ _)); all_goals (first | omega | (simp <;> omega))))).mono ?_; rintro e_ wB ⟨rfl, hbB⟩; have HC2 : Hid (Below w14.heap.size w14 wB) := (by refine hide (Below.trans ?_ (hbB.mono ?_)); (repeat' (first | with_reducible exact Below.refl _ _ | with_reducible exact HC2.out | with_reducible exact HC1.out | with_reducible refine Below.drew ?_ | with_reducible refine bel_alloc ?_ ?_ _ | with_reducible refine Below.setCell ?_ ?_ _)); all_goals (first | omega | (simp <;> omega))); have sC2 := HC2.out.size; have hB1 := hbB.size; (try (refine (have BB : Blk wB w14.heap.size 51 [.int .i64 0, .int .i64 0] := ?_; ?_); (focus (refine Blk.bel ?_ hbB; exact BA; done)); have BBc0 := BB.cell 0; have BBc1 := BB.cell 1; have BBf0 := BB.frozen 0; have BBf1 := BB.frozen 1; have BBl := BB.lt; simp only [List.getElem?_cons_zero, List.getElem?_cons_succ] at BBc0 BBc1)); (try (refine (have BC : Blk wB wA.heap.size 51 [.int .i64 0, .int .i64 0] := ?_; ?_); (focus (refine Blk.bel ?_ hbB; first | exact Blk.new wA _ [_, _] | exact Blk.new wA.drew _ [_, _]; done)); have BCc0 := BC.cell 0; have BCc1 := BC.cell 1; have BCf0 := BC.frozen 0; have BCf1 := BC.frozen 1; have BCl := BC.lt; simp only [List.getElem?_cons_zero, List.getElem?_cons_succ] at BCc0 BCc1))))
            all_goals go_wp2
            all_goals go_meet
            all_goals refine ⟨_, rfl, rfl, (by first | exact (BB.set_ 0 _).set_ 1 _ | exact (BC.set_ 0 _).set_ 1 _ | exact Blk.new _ _ [_, _] | exact ((Blk.new _ _ [_, _]).set_ 0 _).set_ 1 _), (by first | exact Nat.le_refl _ | omega | (simp [World.setCell]; omega)), ?_⟩
            all_goals (repeat' (first | with_reducible exact HC2.out | with_reducible refine bel_alloc ?_ ?_ _ | with_reducible refine Below.setCell ?_ ?_ _))
            all_goals first | omega | (simp <;> omega)
            -->r15
          obtain ⟨g, rfl, rfl, hG, hgz, hbc⟩ := hcut
          obtain ⟨w15, rfl⟩ : ∃ w15 : World, w15 = wc := ⟨_, rfl⟩
          have hI15 := hI14.next hbc
          have hH15 := ownsRow_bel hH14 hbc
          have hbr15 : b1 ≤ w15.heap.size := by have := hbc.size; omega
          have hgb : b1 ≤ g := by omega
          clear c0 c1 c2 c3 c4 c5 c6 z0 hX s0 s1 zs hs hbc HVK hH14 hI14 x014 hbr14 hfb14 hr14 hgz
          have g0 := hG.cell 0; have g1 := hG.cell 1; simp only [List.getElem?_cons_zero, List.getElem?_cons_succ] at g0 g1
          have zg := hG.lt
          have HWA : Hid (∀ W, Calls Try.prog 15 #[.int .i64 v1, .int .i64 0, .int .i64 1099511627776] W fun r w' => r = .returned (.bool true) ∧ W = w') := fun W => by
            have := within_c v1 0 1099511627776 W
            rw [outB_false.2 (by omega)] at this
            exact this
          have HWB : Hid (∀ W, Calls Try.prog 15 #[.int .i64 v2, .int .i64 v1, .int .i64 1099511627776] W fun r w' => r = .returned (.bool true) ∧ W = w') := fun W => by
            have := within_c v2 v1 1099511627776 W
            rw [outB_false.2 (by omega)] at this
            exact this
          go_upto_region 18 with (first | (go_at_call 15; with_reducible refine (HWA.out _).mono ?_; rintro e_ w_ ⟨rfl, rfl⟩) | (go_at_call 15; with_reducible refine (HWB.out _).mono ?_; rintro e_ w_ ⟨rfl, rfl⟩))
          go_upto_region 19 with (at_builtin; refine wpList_append_own _ rfl _ _ 25 rfl b1 3 i0 _ 1 8 Try.underlying25 hi iz0 iz1 iz2 rfl (by decide) _ _ _ rfl (hH15.alloc _) ⟨w15.heap.size, 0, none⟩ 1 1 [.int .i64 hk0] rfl rfl (World.news_of_block (heap_alloc_new w15 _)) (by simp [Value.oneCell']) (by unfold maxLen; omega) (by omega) (by simp; omega) ?_; intro v' w8 hH8 hg8 _)
          have hI8 := hI15.grown hH15 hg8 hpb1'
          have hG8 := blk_grown hG hH15 (by decide) hg8
          have hbr8 : b1 ≤ w8.heap.size := by have := hg8.size; simp at this; omega
          clear hI15 hH15 hg8 hG g0 g1 zg HWA HWB hbr15 HVBD
          obtain ⟨pb, d', hP, hpb1, hpb2, hdc⟩ := own_some hI8.o (by omega)
          cases hP
          obtain ⟨vb', vo, rfl, hvb', x2⟩ := (HV.out _ hI8.b).int_at (show k < vs.length by have := HPRE.out.nv; omega)
          rw [← getD_at (show k < vs.length by have := HPRE.out.nv; omega) 0] at x2
          obtain ⟨vk, hvk⟩ : ∃ v, vs.getD k 0 = v := ⟨_, rfl⟩
          have hvk0 := HPRE.out.v0 k hlt
          rw [hvk] at x2 HPT hvk0
          have hkv : (k : Int) < (vs.length : Int) := by have := HPRE.out.nv; omega
          clear hvk
          have hX := hI8.x
          have c2 := hX.cell 2
          simp only [List.getElem?_cons_zero, List.getElem?_cons_succ] at c2
          have zx := hX.lt
          have hT := hI8.t
          have t0 := hT.cell 0
          simp only [List.getElem?_cons_zero] at t0
          have zt := hT.lt
          have g0 := hG8.cell 0; have g1 := hG8.cell 1; simp only [List.getElem?_cons_zero, List.getElem?_cons_succ] at g0 g1
          have zg := hG8.lt
          obtain ⟨_, y1, y2⟩ := ps_at (show k < (pixL fs ts vs B a wid sq k).length by simpa using hlt)
          rw [← hI8.o.cellAt (k * 3 + 1) (by omega)] at y1
          rw [← hI8.o.cellAt (k * 3 + 2) (by omega)] at y2
          have y3 := hI8.o.frozenAt (k * 3 + 1)
          have y4 := hI8.o.frozenAt (k * 3 + 2)
          have m1 : IntKind.i64.wrap (v1 - vk) = v1 - vk := by simp (disch := omega) only [IntWalk.i64_in]
          have m2 : IntKind.i64.wrap (v2 + vk) = v2 + vk := by simp (disch := omega) only [IntWalk.i64_in]
          refine wp_region_M (fun w' => w'.cell? ⟨q + 1, 0, none⟩ = some (.slice (some ⟨pb, 0, none⟩) fs.length d) ∧ w'.cell? ⟨g, 0, none⟩ = some (.int .i64 v1) ∧ w'.cell? ⟨g, 1, none⟩ = some (.int .i64 v2) ∧ w'.cell? ⟨p, 2, none⟩ = some (.slice (some ⟨vb', vo, none⟩) vs.length vc) ∧ w'.cell? ⟨vb', vo + k, none⟩ = some (.int .i64 vk)) 23 (by kernel_rfl) ?_
          have hSd : w8.drew.cell? ⟨q + 1, 0, none⟩ = some (.slice (some ⟨pb, 0, none⟩) fs.length d) ∧ w8.drew.cell? ⟨g, 0, none⟩ = some (.int .i64 v1) ∧ w8.drew.cell? ⟨g, 1, none⟩ = some (.int .i64 v2) ∧ w8.drew.cell? ⟨p, 2, none⟩ = some (.slice (some ⟨vb', vo, none⟩) vs.length vc) ∧ w8.drew.cell? ⟨vb', vo + k, none⟩ = some (.int .i64 vk) := ⟨t0, g0, g1, c2, x2⟩
          refine AnyM.take (i := 0) (v := ?_) rfl (by kernel_rfl) (by kernel_rfl) (by kernel_rfl) (by kernel_rfl) (fun _ _ _ h => h) (Or.inl ⟨by rfl, ?_⟩) (by assumption) ?_
          rotate_left 1
          · (intro w hSw; obtain ⟨hk1, hk2, hk3, hk4, hk5⟩ := hSw; go_simp <;> with_reducible rfl)
          simp only [Act.put, List.getElem_toArray, List.getElem_cons_zero, List.setIfInBounds_toArray, List.set_cons_zero, List.set_cons_succ]
          refine AnyM.take (i := 1) (v := ?_) rfl (by kernel_rfl) (by kernel_rfl) (by kernel_rfl) (by kernel_rfl) (fun _ _ _ h => h) (Or.inl ⟨by rfl, ?_⟩) (by assumption) ?_
          rotate_left 1
          · (intro w hSw; obtain ⟨hk1, hk2, hk3, hk4, hk5⟩ := hSw; go_simp <;> with_reducible rfl)
          simp only [Act.put, List.getElem_toArray, List.getElem_cons_zero, List.getElem_cons_succ, List.setIfInBounds_toArray, List.set_cons_zero, List.set_cons_succ]
          refine AnyM.take (i := 2) (v := ?_) rfl (by kernel_rfl) (by kernel_rfl) (by kernel_rfl) (by kernel_rfl) (fun _ _ _ h => h) (Or.inl ⟨by rfl, ?_⟩) (by assumption) ?_
          rotate_left 1
          · (intro w hSw; obtain ⟨hk1, hk2, hk3, hk4, hk5⟩ := hSw; go_simp <;> with_reducible rfl)
          simp only [Act.put, List.getElem_toArray, List.getElem_cons_zero, List.getElem_cons_succ, List.setIfInBounds_toArray, List.set_cons_zero, List.set_cons_succ]
          refine AnyM.take (i := 3) (v := ?_) rfl (by kernel_rfl) (by kernel_rfl) (by kernel_rfl) (by kernel_rfl) (fun _ _ _ h => h) (Or.inl ⟨by rfl, ?_⟩) (by assumption) ?_
          rotate_left 1
          · (intro w hSw; obtain ⟨hk1, hk2, hk3, hk4, hk5⟩ := hSw; go_simp <;> with_reducible rfl)
          simp only [Act.put, List.getElem_toArray, List.getElem_cons_zero, List.getElem_cons_succ, List.setIfInBounds_toArray, List.set_cons_zero, List.set_cons_succ]
          refine AnyM.take (i := 4) (v := ?_) rfl (by kernel_rfl) (by kernel_rfl) (by kernel_rfl) (by kernel_rfl) (fun _ _ _ h => h) (Or.inl ⟨by rfl, ?_⟩) (by assumption) ?_
          rotate_left 1
          · (intro w hSw; obtain ⟨hk1, hk2, hk3, hk4, hk5⟩ := hSw; go_simp <;> with_reducible rfl)
          simp only [Act.put, List.getElem_toArray, List.getElem_cons_zero, List.getElem_cons_succ, List.setIfInBounds_toArray, List.set_cons_zero, List.set_cons_succ]
          refine AnyM.take (i := 5) (v := ?_) rfl (by kernel_rfl) (by kernel_rfl) (by kernel_rfl) (by kernel_rfl) (fun _ _ _ h => h) (Or.inl ⟨by rfl, ?_⟩) (by assumption) ?_
          rotate_left 1
          · (intro w hSw; obtain ⟨hk1, hk2, hk3, hk4, hk5⟩ := hSw; go_simp <;> with_reducible rfl)
          simp only [Act.put, List.getElem_toArray, List.getElem_cons_zero, List.getElem_cons_succ, List.setIfInBounds_toArray, List.set_cons_zero, List.set_cons_succ]
          refine AnyM.take (i := 6) (v := ?_) rfl (by kernel_rfl) (by kernel_rfl) (by kernel_rfl) (by kernel_rfl) (fun _ _ _ h => h) (Or.inl ⟨by rfl, ?_⟩) (by assumption) ?_
          rotate_left 1
          · (intro w hSw; obtain ⟨hk1, hk2, hk3, hk4, hk5⟩ := hSw; go_simp <;> with_reducible rfl)
          simp only [Act.put, List.getElem_toArray, List.getElem_cons_zero, List.getElem_cons_succ, List.setIfInBounds_toArray, List.set_cons_zero, List.set_cons_succ]
          refine AnyM.take (i := 7) (v := ?_) rfl (by kernel_rfl) (by kernel_rfl) (by kernel_rfl) (by kernel_rfl) (fun _ _ _ h => h) (Or.inl ⟨by rfl, ?_⟩) (by assumption) ?_
          rotate_left 1
          · (intro w hSw; obtain ⟨hk1, hk2, hk3, hk4, hk5⟩ := hSw; go_simp <;> with_reducible rfl)
          simp only [Act.put, List.getElem_toArray, List.getElem_cons_zero, List.getElem_cons_succ, List.setIfInBounds_toArray, List.set_cons_zero, List.set_cons_succ]
          refine AnyM.take (i := 8) (v := ?_) rfl (by kernel_rfl) (by kernel_rfl) (by kernel_rfl) (by kernel_rfl) (fun _ _ _ h => h) (Or.inl ⟨by rfl, ?_⟩) (by assumption) ?_
          rotate_left 1
          · (intro w hSw; obtain ⟨hk1, hk2, hk3, hk4, hk5⟩ := hSw; go_simp <;> with_reducible rfl)
          simp only [Act.put, List.getElem_toArray, List.getElem_cons_zero, List.getElem_cons_succ, List.setIfInBounds_toArray, List.set_cons_zero, List.set_cons_succ]
          refine AnyM.take (i := 9) (v := ?_) rfl (by kernel_rfl) (by kernel_rfl) (by kernel_rfl) (by kernel_rfl) (fun _ _ _ h => h) (Or.inl ⟨by rfl, ?_⟩) (by assumption) ?_
          rotate_left 1
          · (intro w hSw; obtain ⟨hk1, hk2, hk3, hk4, hk5⟩ := hSw; go_simp <;> with_reducible rfl)
          simp only [Act.put, List.getElem_toArray, List.getElem_cons_zero, List.getElem_cons_succ, List.setIfInBounds_toArray, List.set_cons_zero, List.set_cons_succ]
          refine AnyM.take (i := 10) (v := ?_) rfl (by kernel_rfl) (by kernel_rfl) (by kernel_rfl) (by kernel_rfl) (fun _ _ _ h => h) (Or.inl ⟨by rfl, ?_⟩) (by assumption) ?_
          rotate_left 1
          · (intro w hSw; obtain ⟨hk1, hk2, hk3, hk4, hk5⟩ := hSw; go_simp <;> with_reducible rfl)
          simp only [Act.put, List.getElem_toArray, List.getElem_cons_zero, List.getElem_cons_succ, List.setIfInBounds_toArray, List.set_cons_zero, List.set_cons_succ]
          refine AnyM.take (i := 12) (v := ?_) rfl (by kernel_rfl) (by kernel_rfl) (by kernel_rfl) (by kernel_rfl) (fun _ _ _ h => h) (Or.inl ⟨by rfl, ?_⟩) (by assumption) ?_
          rotate_left 1
          · (intro w hSw; obtain ⟨hk1, hk2, hk3, hk4, hk5⟩ := hSw; go_simp <;> with_reducible rfl)
          simp only [Act.put, List.getElem_toArray, List.getElem_cons_zero, List.getElem_cons_succ, List.setIfInBounds_toArray, List.set_cons_zero, List.set_cons_succ]
          refine AnyM.take (i := 13) (v := ?_) rfl (by kernel_rfl) (by kernel_rfl) (by kernel_rfl) (by kernel_rfl) (fun _ _ _ h => h) (Or.inl ⟨by rfl, ?_⟩) (by assumption) ?_
          rotate_left 1
          · (intro w hSw; obtain ⟨hk1, hk2, hk3, hk4, hk5⟩ := hSw; go_simp <;> with_reducible rfl)
          simp only [Act.put, List.getElem_toArray, List.getElem_cons_zero, List.getElem_cons_succ, List.setIfInBounds_toArray, List.set_cons_zero, List.set_cons_succ]
          refine AnyM.take (i := 14) (v := ?_) rfl (by kernel_rfl) (by kernel_rfl) (by kernel_rfl) (by kernel_rfl) (fun _ _ _ h => h) (Or.inl ⟨by rfl, ?_⟩) (by assumption) ?_
          rotate_left 1
          · (intro w hSw; obtain ⟨hk1, hk2, hk3, hk4, hk5⟩ := hSw; go_simp <;> with_reducible rfl)
          simp only [Act.put, List.getElem_toArray, List.getElem_cons_zero, List.getElem_cons_succ, List.setIfInBounds_toArray, List.set_cons_zero, List.set_cons_succ]
          refine AnyM.take (i := 15) (v := ?_) rfl (by kernel_rfl) (by kernel_rfl) (by kernel_rfl) (by kernel_rfl) (fun _ _ _ h => h) (Or.inl ⟨by rfl, ?_⟩) (by assumption) ?_
          rotate_left 1
          · (intro w hSw; obtain ⟨hk1, hk2, hk3, hk4, hk5⟩ := hSw; go_simp <;> with_reducible rfl)
          simp only [Act.put, List.getElem_toArray, List.getElem_cons_zero, List.getElem_cons_succ, List.setIfInBounds_toArray, List.set_cons_zero, List.set_cons_succ]
          refine AnyM.take (i := 16) (v := ?_) rfl (by kernel_rfl) (by kernel_rfl) (by kernel_rfl) (by kernel_rfl) (fun _ _ _ h => h) (Or.inl ⟨by rfl, ?_⟩) (by assumption) ?_
          rotate_left 1
          · (intro w hSw; obtain ⟨hk1, hk2, hk3, hk4, hk5⟩ := hSw; go_simp <;> with_reducible rfl)
          simp only [Act.put, List.getElem_toArray, List.getElem_cons_zero, List.getElem_cons_succ, List.setIfInBounds_toArray, List.set_cons_zero, List.set_cons_succ]
          refine AnyM.take (i := 17) (v := ?_) rfl (by kernel_rfl) (by kernel_rfl) (by kernel_rfl) (by kernel_rfl) (fun _ _ _ h => h) (Or.inl ⟨by rfl, ?_⟩) (by assumption) ?_
          rotate_left 1
          · (intro w hSw; obtain ⟨hk1, hk2, hk3, hk4, hk5⟩ := hSw; go_simp <;> with_reducible rfl)
          simp only [Act.put, List.getElem_toArray, List.getElem_cons_zero, List.getElem_cons_succ, List.setIfInBounds_toArray, List.set_cons_zero, List.set_cons_succ]
          refine AnyM.take (i := 18) (v := ?_) rfl (by kernel_rfl) (by kernel_rfl) (by kernel_rfl) (by kernel_rfl) (fun _ _ _ h => h) (Or.inl ⟨by rfl, ?_⟩) (by assumption) ?_
          rotate_left 1
          · (intro w hSw; obtain ⟨hk1, hk2, hk3, hk4, hk5⟩ := hSw; go_simp <;> with_reducible rfl)
          simp only [Act.put, List.getElem_toArray, List.getElem_cons_zero, List.getElem_cons_succ, List.setIfInBounds_toArray, List.set_cons_zero, List.set_cons_succ]
          refine AnyM.take (i := 19) (v := ?_) rfl (by kernel_rfl) (by kernel_rfl) (by kernel_rfl) (by kernel_rfl) (fun _ _ _ h => h) (Or.inl ⟨by rfl, ?_⟩) (by assumption) ?_
          rotate_left 1
          · (intro w hSw; obtain ⟨hk1, hk2, hk3, hk4, hk5⟩ := hSw; go_simp <;> with_reducible rfl)
          simp only [Act.put, List.getElem_toArray, List.getElem_cons_zero, List.getElem_cons_succ, List.setIfInBounds_toArray, List.set_cons_zero, List.set_cons_succ]
          refine AnyM.next [11] (by kernel_rfl) (by simp) ?_
          refine NextM.cons rfl (fun K hK => ?_) NextM.nil
          go_simp
          refine hK _ _ (fun _ => hSd) ?_
          clear hK K
          refine AnyM.take (i := 20) (v := ?_) rfl (by kernel_rfl) (by kernel_rfl) (by kernel_rfl) (by kernel_rfl) (fun _ _ _ h => h) (Or.inl ⟨by rfl, ?_⟩) (by assumption) ?_
          rotate_left 1
          · (intro w hSw; obtain ⟨hk1, hk2, hk3, hk4, hk5⟩ := hSw; go_simp <;> with_reducible rfl)
          simp only [Act.put, List.getElem_toArray, List.getElem_cons_zero, List.getElem_cons_succ, List.setIfInBounds_toArray, List.set_cons_zero, List.set_cons_succ]
          refine AnyM.takeAny (i := 21) (v := ?_) rfl (by kernel_rfl) (by kernel_rfl) (by kernel_rfl) (by kernel_rfl) (fun _ _ _ h => h) (Or.inl ⟨by rfl, ?_⟩) (fun h => by first | assumption | exact Bool.noConfusion (h.symm.trans (by kernel_rfl : _ = true))) ?_
          rotate_left 1
          · (intro w _; go_simp <;> with_reducible rfl)
          simp only [Act.put, List.getElem_toArray, List.getElem_cons_zero, List.getElem_cons_succ, List.setIfInBounds_toArray, List.set_cons_zero, List.set_cons_succ]
          refine AnyM.takeAny (i := 22) (v := ?_) rfl (by kernel_rfl) (by kernel_rfl) (by kernel_rfl) (by kernel_rfl) (fun _ _ _ h => h) (Or.inl ⟨by rfl, ?_⟩) (fun h => by first | assumption | exact Bool.noConfusion (h.symm.trans (by kernel_rfl : _ = true))) ?_
          rotate_left 1
          · (intro w _; go_simp <;> with_reducible rfl)
          simp only [Act.put, List.getElem_toArray, List.getElem_cons_zero, List.getElem_cons_succ, List.setIfInBounds_toArray, List.set_cons_zero, List.set_cons_succ]
          refine AnyM.next [23] (by kernel_rfl) (by simp) ?_
          refine NextM.cons rfl (fun K hK => ?_) NextM.nil
          go_simp
          have HMX : Hid ((if vk < v1 then v1 - vk else 0) = max 0 (v1 - vk)) := by show _ = _; split <;> omega
          obtain ⟨mx, hmx⟩ : ∃ m, (if vk < v1 then v1 - vk else 0) = m := ⟨_, rfl⟩
          rw [hmx] at HMX
          simp only [hmx]
          clear hmx
          refine hK _ _ (fun h => by simp at h) ?_
          clear hK K
          refine AnyM.done (by kernel_rfl) ?_ _
          have hkl : k < (pixL fs ts vs B a wid sq k).length := by simpa using hlt
          have e1 : (pixL fs ts vs B a wid sq k)[k].1 = f := by rw [← getD_at hkl P0, pixL_at hlt, if_neg (Nat.lt_irrefl k)]; exact HFK.out
          obtain ⟨W9, hW9⟩ : ∃ W, ((w8.setCell ⟨pb, k * 3 + 1, none⟩ (.int .i64 mx)).setCell ⟨pb, k * 3 + 1 + 1, none⟩ (.int .i64 (v2 + vk))).drew = W := ⟨_, rfl⟩
          have hI9 := hI8.stored hkl mx (v2 + vk)
          rw [e1, HMX.out, ← HPT.out, ← HPS.out, ← HMX.out] at hI9
          have hH9 := own_far_two hH8 hI8.o (by decide) (k * 3 + 1) (k * 3 + 2) (.int .i64 mx) (.int .i64 (v2 + vk))
          have hI9 : ConI (some ⟨fb, fo, none⟩) H (some ⟨vb', vo, none⟩) A' (some ⟨pb, 0, none⟩) fc hc vc c' d fs ts vs B (a : Int) wd sq ns VL (pixL fs ts vs B a wid sq (k + 1)) p q (q + 1) bo w W9 := by rw [← hW9]; exact hI9.next (Below.refl _ _).drew
          have hH9 : W9.ownsRow b1 3 1 v' (k + 1) (ints (hgtL fs ts B a wid sq (k + 1))) := by rw [HHS.out, ints_append, ← hW9]; exact hH9.drew
          have hbr9 : b1 ≤ W9.heap.size := by rw [← hW9]; simpa [World.setCell] using hbr8
          rw [hW9]
          go_wp2
          go_roundw
          case rel => exact ⟨k + 1, by omega, by go_num, hI9, hH9, hbr9⟩
          case measure => simp [intOf]; omega
          -->round1
        · obtain rfl : k = fs.length := by omega
          have HTI := hide (held_in HS.out (fun k hk => (HPRE.out.v0 k hk).1))
          have HLN : Hid ((pixL fs ts vs B a wid sq fs.length).length = fs.length) := pixL_length _ _ _ _ _ _ _ _
          have HPF : Hid (∀ k, k < fs.length → ((pixL fs ts vs B a wid sq fs.length).getD k P0).1 = fs.getD k 0) := fun k hk => by rw [pixL_at hk, if_pos hk]; rfl
          have HHK : Hid (∀ k, k < fs.length → (hgtL fs ts B a wid sq fs.length).getD k 0 = hK fs ts B a wid sq k) := fun k hk => by rw [getD_at (by simpa using hk)]; simp [hgtL]
          have HHL : Hid ((hgtL fs ts B a wid sq fs.length).length = fs.length) := by show _ = _; simp
          generalize pixL fs ts vs B a wid sq fs.length = L at hIr HTI HLN HPF
          generalize hgtL fs ts B a wid sq fs.length = HL at hHr HHK HHL
          have hL8 : L.length ≤ 1000 := by rw [HLN.out]; omega
          have HTE := hide (fun (P : Option Addr) (d : Nat) (W : World) h => traceErr_c P d (a : Int) wd L W h hL8)
          have HCT := hide (fun (P : Option Addr) (d : Nat) (W : World) h => copyTrace_c P d (a : Int) wd L W h hL8)
          have HCW := hide (fun (P : Option Addr) (d : Nat) (W : World) h => copyTraceOwn_c P d (a : Int) wd L W h hL8)
          have HLAM := hide (fun (P : Option Addr) (d : Nat) (W : World) h hT => laminatedAllCap_ok P d (a : Int) wd L W h hT)
          have HHTS := hide (fun (P : Option Addr) (d : Nat) (W : World) h hT h0 => heightsOf_ok P d (a : Int) wd L W h hT h0)
          unfold LamCap at HLAM
          rw [HLN.out] at HTE HCT HCW HLAM HHTS
          clear hL8
          obtain ⟨te, hte⟩ : ∃ te, (trE L (a : Int) wd).2 = te := ⟨_, rfl⟩
          rw [hte] at HTE
          have HTR : Hid (te = 0 → Tr L (a : Int) wd) := fun h => trE_zero (by rw [hte]; exact h)
          clear hte HRE HVI HVBD HCO HZ0 hI4 HS
          have hX := hIr.x
          have c0 := hX.cell 0; have c1 := hX.cell 1; simp only [List.getElem?_cons_zero, List.getElem?_cons_succ] at c0 c1
          have c2 := hX.cell 2
          have c3 := hX.cell 3
          have c4 := hX.cell 4
          have c5 := hX.cell 5
          have c6 := hX.cell 6
          simp only [List.getElem?_cons_zero, List.getElem?_cons_succ] at c2 c3 c4 c5 c6
          have z0 := hX.lt
          have hT := hIr.t
          have t0 := hT.cell 0; have t1 := hT.cell 1; have t2 := hT.cell 2; simp only [List.getElem?_cons_zero, List.getElem?_cons_succ] at t0 t1 t2
          have zt := hT.lt
          by_cases h0 : te = 0
          · subst h0
            have hTr := HTR.out rfl
            obtain ⟨hlam, hin, hht⟩ := HTI.out hTr
            have hlm := lam_length hlam
            have HWD := hide (wider hTr)
            have HLW := hide (lam_wider (wider hTr) (k := fs.length - 1) (by rw [HLN.out]; omega) hlam)
            have HLA : Hid (∀ P d W, Rd W P (ps L) → Calls Try.prog 19 #[.agg #[.slice P fs.length d, .int .i64 (a : Int), .int .i64 wd]] W fun r w' => (∃ A c, r = .returned (.tuple #[.slice A (fs.length - 1) c, .int .i64 0, .int .i64 0]) ∧ RdT w' 51 A (gs (lam L (a : Int) wd (fs.length - 1)).1)) ∧ Below W.heap.size W w') := fun P d W h => (HLAM.out P d W h hTr).mono fun r w' ⟨hh, hb⟩ => ⟨hh.elim (fun ⟨_, A, c, _, x, y⟩ => ⟨A, c, x, y⟩) (fun ⟨x, _⟩ => absurd hlam x), hb⟩
            have HHA := hide (fun P d W h => HHTS.out P d W h hTr hlam)
            have HHG : Hid (∀ k, k < fs.length → ((hts L (a : Int) wd (lam L (a : Int) wd (fs.length - 1)).1 fs.length).getD k G0).1 ≤ hK fs ts B a wid sq k ∧ hK fs ts B a wid sq k ≤ ((hts L (a : Int) wd (lam L (a : Int) wd (fs.length - 1)).1 fs.length).getD k G0).2) := fun k hk => by
              rw [getD_at (by simpa using hk), hts_get_ _ _ _ _ hk]
              exact hht k hk
            have HYL : Hid ((hts L (a : Int) wd (lam L (a : Int) wd (fs.length - 1)).1 fs.length).length = fs.length) := hts_length _ _ _ _ _
            have HIN := hide hin
            have HTRH := hide hTr
            have HLMH := hide hlm
            clear hlam hin hht hlm hTr HTI HTR HLAM HHTS
            generalize hts L (a : Int) wd (lam L (a : Int) wd (fs.length - 1)).1 fs.length = HT at HHA HHG HYL
            generalize (lam L (a : Int) wd (fs.length - 1)).1 = LM at HLA HIN HLMH HLW
            obtain ⟨m, hm⟩ : ∃ m, fs.length - 1 = m := ⟨_, rfl⟩
            have hm1 : (m : Int) = (fs.length : Int) - 1 := by omega
            rw [hm] at HLA HLMH HLW
            clear u1
            have u1 : IntKind.i64.wrap ((fs.length : Int) - 1) = (m : Int) := by rw [← hm1]; simp (disch := omega) only [IntWalk.i64_in]
            have hm2 : m ≤ fs.length := by omega
            have hm3 : fs.length ≤ m + 1 := by omega
            have hm4 : m < fs.length := by omega
            have HM1 := hide hm1
            have HMM := hide hm
            clear hm hm1
            have e1 : ((m : Int) != (m : Int)) = false := by simp
            have e2 : ((fs.length : Int) != (fs.length : Int)) = false := by simp
            go_upto_region 22 with (first | (go_at_call 18; refine (HTE.out _ _ _ (Rd.of_own hIr.o)).mono ?_; rintro e wA ⟨rfl, hbA⟩))
            have hI1 := hIr.next hbA
            have hH1 := ownsRow_bel hHr hbA
            clear c0 c1 c2 c3 c4 c5 c6 z0 hX t0 t1 t2 zt hT hbA hIr hHr HTE
            have hT := hI1.t
            have t0 := hT.cell 0; have t1 := hT.cell 1; have t2 := hT.cell 2; simp only [List.getElem?_cons_zero, List.getElem?_cons_succ] at t0 t1 t2
            have zt := hT.lt
            go_upto_region 23 with (first | (go_at_call 20; refine (HCT.out _ _ _ (Rd.of_own hI1.o)).mono ?_; rintro e wA ⟨⟨PA, dA, rfl, hrA⟩, hbA⟩) | (go_at_call 19; refine (HLA.out _ _ _ hrA).mono ?_; rintro e wB ⟨⟨LA, lc, rfl, hrB⟩, hbB⟩))
            have hbAB := bel_tr hbA hbA.size hbB
            have hI2 := hI1.next hbAB
            have hH2 := ownsRow_bel hH1 hbAB
            clear t0 t1 t2 zt hT hbA hbB hbAB hI1 hH1 hrA
            have hT := hI2.t
            have t0 := hT.cell 0; have t1 := hT.cell 1; have t2 := hT.cell 2; simp only [List.getElem?_cons_zero, List.getElem?_cons_succ] at t0 t1 t2
            have zt := hT.lt
            go_upto_region 24 with (first | (go_at_call 20; refine (HCT.out _ _ _ (Rd.of_own hI2.o)).mono ?_; rintro e wA ⟨⟨PA, dA, rfl, hrA⟩, hbA⟩) | (go_at_call 21; refine (HHA.out _ _ _ hrA).mono ?_; rintro e wC ⟨⟨YA, yc, rfl, hrC⟩, hbC⟩))
            have hbAB := bel_tr hbA hbA.size hbC
            have hI3 := hI2.next hbAB
            have hH3 := ownsRow_bel hH2 hbAB
            have hL3 := hrB.bel hbAB
            clear t0 t1 t2 zt hT hbA hbC hbAB hI2 hH2 hrA hrB
            go_upto_region 26 with fail
            obtain ⟨hg, hc', hP, hg1, hg2, hg3⟩ := own_some hH3 (by omega)
            cases hP
            have HHR := hide (Rd.of_own hH3)
            have HCE : Hid (∀ k, k < fs.length → ∀ W, Below wC.heap.size wC W → W.cell? ⟨hg, k, none⟩ = some (.int .i64 (hK fs ts B a wid sq k))) := fun k hk W hb => by
              rw [(ownsRow_bel hH3 hb).cellAt k (by omega), ints_at (by rw [HHL.out]; exact hk), ← getD_at (by rw [HHL.out]; exact hk) 0, HHK.out k hk]
            have hw1 := hwd.1
            go_wp2
            go_loopw [22] (fun x wr => ∃ k : Nat, k ≤ fs.length ∧ x = .int .i64 k ∧ Below wC.heap.size wC wr) (fun x _ => fs.length - (intOf x).toNat)
            case atStart => exact ⟨0, Nat.zero_le _, rfl, Below.refl _ _⟩
            case round =>
              obtain ⟨k, hk, rfl, hbr⟩ := hrel
              have hIr := hI3.next hbr
              by_cases hlt : k < fs.length
              · --<round2
                have hki : (k : Int) < (fs.length : Int) := by omega
                have x1 := HCE.out k hlt wr hbr
                have zh : hg < wr.heap.size := by have := hbr.size; omega
                obtain ⟨yb, yo, rfl, hyb, y1, y2⟩ := (hrC.bel hbr).g_at (show k < HT.length by rw [HYL.out]; exact hlt)
                rw [← getD_at (by rw [HYL.out]; exact hlt) G0] at y1 y2
                have hyy := HHG.out k hlt
                have o1 : outB (hK fs ts B a wid sq k) (HT.getD k G0).1 (HT.getD k G0).2 = false := outB_false.2 hyy
                generalize hK fs ts B a wid sq k = hh at x1 hyy o1
                generalize (HT.getD k G0).1 = ylo at y1 hyy o1
                generalize (HT.getD k G0).2 = yhi at y2 hyy o1
                have hX := hIr.x
                have c0 := hX.cell 0; have c1 := hX.cell 1; simp only [List.getElem?_cons_zero, List.getElem?_cons_succ] at c0 c1
                have c2 := hX.cell 2
                have c3 := hX.cell 3
                have c4 := hX.cell 4
                have c5 := hX.cell 5
                have c6 := hX.cell 6
                simp only [List.getElem?_cons_zero, List.getElem?_cons_succ] at c2 c3 c4 c5 c6
                have z0 := hX.lt
                by_cases hkm : k < m
                · have d1 : decide ((k : Int) < (m : Int)) = true := decide_eq_true (by omega)
                  obtain ⟨lb, lo, rfl, hlb, l1, l2⟩ := (hL3.bel hbr).1.g_at (show k < LM.length by rw [HLMH.out]; exact hkm)
                  rw [← getD_at (by rw [HLMH.out]; exact hkm) G0] at l1 l2
                  obtain ⟨tb, tf, rfl, htb, t1⟩ := (HH.out _ hIr.b).int_at (show k < ts.length by have := HPRE.out.nt; omega)
                  rw [← getD_at (by have := HPRE.out.nt; omega) 0] at t1
                  have hkt : (k : Int) < (ts.length : Int) := by have := HPRE.out.nt; omega
                  have hkmi : (k : Int) < (m : Int) := by omega
                  have hll := HIN.out k (by rw [HLMH.out]; exact hkm)
                  have o2 : outB (ts.getD k 0) (LM.getD k G0).1 (LM.getD k G0).2 = false := outB_false.2 hll
                  generalize ts.getD k 0 = tk at t1 hll o2
                  generalize (LM.getD k G0).1 = llo at l1 hll o2
                  generalize (LM.getD k G0).2 = lhi at l2 hll o2
                  go_upto_region 29 with fail
                  go_quiet ((go_at_call 15; exact quiet_eq_ (within_c _ _ _ _)))
                  go_wp2
                  go_roundw
                  case rel => exact ⟨k + 1, by omega, by go_num, below_drewN hbr _⟩
                  case measure => simp [intOf]; omega
                · have d1 : decide ((k : Int) < (m : Int)) = false := decide_eq_false (by omega)
                  go_upto_region 29 with fail
                  go_quiet ((go_at_call 15; exact quiet_eq_ (within_c _ _ _ _)))
                  go_wp2
                  go_roundw
                  case rel => exact ⟨k + 1, by omega, by go_num, below_drewN hbr _⟩
                  case measure => simp [intOf]; omega
                -->round2
              · obtain rfl : k = fs.length := by omega
                obtain ⟨V6, rfl⟩ : ∃ V6 : World, V6 = wr := ⟨_, rfl⟩
                clear HHR HCE HHG HYL HHA HHK HHL HIN
                have hLr := hL3.bel hbr
                clear hI3 hH3 hL3 hrC hbr
                have hT := hIr.t
                have t0 := hT.cell 0; have t1 := hT.cell 1; have t2 := hT.cell 2; simp only [List.getElem?_cons_zero, List.getElem?_cons_succ] at t0 t1 t2
                have zt := hT.lt
                obtain ⟨bq, hbq⟩ : ∃ b, V6.heap.size = b := ⟨_, rfl⟩
                go_upto_region 32 with (first | (go_at_call 20; refine (HCW.out _ _ _ (Rd.of_own hIr.o)).mono ?_; rintro e wA ⟨⟨vA, rfl, hoA⟩, hbA⟩; obtain ⟨p3, c3, rfl, hp31, hp32, hp33⟩ := own_some hoA (by omega)))
                obtain ⟨g3, hg3⟩ : ∃ g, wA.heap.size = g := ⟨_, rfl⟩
                obtain ⟨W3', hW3⟩ : ∃ W, wA.alloc (.cells #[.slice (some ⟨p3, 0, none⟩) fs.length c3, .int .i64 (a : Int), .int .i64 wd] 30) = W := ⟨_, rfl⟩
                have hb3 : Below V6.heap.size V6 W3' := by rw [← hW3]; exact bel_alloc hbA hbA.size _
                have hG3 : Blk W3' g3 30 [.slice (some ⟨p3, 0, none⟩) fs.length c3, .int .i64 (a : Int), .int .i64 wd] := by rw [← hW3, ← hg3]; exact Blk.new wA _ [_, _, _]
                have ho3 : W3'.ownsRow V6.heap.size 55 3 (.slice (some ⟨p3, 0, none⟩) fs.length c3) fs.length (ps L) := by rw [← hW3]; exact hoA.alloc _
                have hg3q : V6.heap.size ≤ g3 := by rw [← hg3]; exact hbA.size
                rw [hW3, hg3]
                clear hW3 hg3 hoA hbA hp32 t0 t1 t2 zt hT
                have hI3 := hIr.next hb3
                have hT := hI3.t
                have t0 := hT.cell 0; have t1 := hT.cell 1; have t2 := hT.cell 2; simp only [List.getElem?_cons_zero, List.getElem?_cons_succ] at t0 t1 t2
                have zt := hT.lt
                have g0 := hG3.cell 0; have g1 := hG3.cell 1; have g2 := hG3.cell 2; simp only [List.getElem?_cons_zero, List.getElem?_cons_succ] at g0 g1 g2
                have zg := hG3.lt
                have gf2 := hG3.frozen 2
                have hwd5 := HPRE.out.w0
                have hwd6 := HPRE.out.w1
                have u5 : IntKind.i64.wrap (wd + 5) = wd + 5 := by simp (disch := omega) only [IntWalk.i64_in]
                go_upto_region 33 with fail
                have HWW : Hid ((if wd + 5 < 500 then wd + 5 else 500) = min 500 (wd + 5)) := by show _ = _; split <;> omega
                obtain ⟨ww, hww⟩ : ∃ x, (if wd + 5 < 500 then wd + 5 else 500) = x := ⟨_, rfl⟩
                rw [hww] at HWW
                simp only [hww]
                clear hww
                obtain ⟨W4, hW4⟩ : ∃ W, W3'.setCell ⟨g3, 2, none⟩ (.int .i64 ww) = W := ⟨_, rfl⟩
                have hb4 : Below V6.heap.size V6 W4 := by rw [← hW4]; exact hb3.setCell (by show V6.heap.size ≤ g3; exact hg3q) _
                have hG4 : Blk W4 g3 30 [.slice (some ⟨p3, 0, none⟩) fs.length c3, .int .i64 (a : Int), .int .i64 ww] := by rw [← hW4]; exact hG3.set_ 2 _
                have ho4 : W4.ownsRow V6.heap.size 55 3 (.slice (some ⟨p3, 0, none⟩) fs.length c3) fs.length (ps (widL L 0)) := by rw [widL_zero, ← hW4]; exact own_setT ho3 hG3 (by decide) 2 _
                rw [hW4]
                clear hW4 t0 t1 t2 zt hT g0 g1 g2 zg gf2 hI3 hG3 ho3 hb3 u5 HCW HCT
                obtain ⟨pb, d', hP, hpb1, hpb2, hdc⟩ := own_some hIr.o (by omega)
                cases hP
                go_wp2
                go_loopw [24] (fun x wr => ∃ k : Nat, k ≤ fs.length ∧ x = .int .i64 k ∧ Below V6.heap.size V6 wr ∧ Blk wr g3 30 [.slice (some ⟨p3, 0, none⟩) fs.length c3, .int .i64 (a : Int), .int .i64 ww] ∧ wr.ownsRow V6.heap.size 55 3 (.slice (some ⟨p3, 0, none⟩) fs.length c3) fs.length (ps (widL L k))) (fun x _ => fs.length - (intOf x).toNat)
                case atStart => exact ⟨0, Nat.zero_le _, rfl, hb4, hG4, ho4⟩
                case round =>
                  obtain ⟨k, hk, rfl, hbr, hGr, hor⟩ := hrel
                  have hI5 := hIr.next hbr
                  by_cases hlt : k < fs.length
                  · --<round3
                    have hki : (k : Int) < (fs.length : Int) := by omega
                    have hkL : k < L.length := by rw [HLN.out]; exact hlt
                    have hpt := HTRH.out.pt k hkL
                    unfold plo phi at hpt
                    obtain ⟨_, l1, l2⟩ := ps_at hkL
                    rw [← hI5.o.cellAt (k * 3 + 1) (by omega), ← getD_at hkL P0] at l1
                    rw [← hI5.o.cellAt (k * 3 + 2) (by omega), ← getD_at hkL P0] at l2
                    have HWP : Hid (widP (L.getD k P0) = ((L.getD k P0).1, max 0 ((L.getD k P0).2.1 - 3), min 20000 ((L.getD k P0).2.2 + 3))) := rfl
                    have HWS := hide (widL_succ (l := L) (k := k))
                    have hkw : k < (widL L k).length := by simpa using hkL
                    have HW1 : Hid ((widL L k)[k].1 = (L.getD k P0).1) := by show _ = _; rw [← getD_at hkw P0, widL_at hkL, if_neg (Nat.lt_irrefl k)]
                    obtain ⟨_, y1, y2⟩ := ps_at hkw
                    rw [← hor.cellAt (k * 3 + 1) (by omega)] at y1
                    rw [← hor.cellAt (k * 3 + 2) (by omega)] at y2
                    generalize (L.getD k P0).2.1 = lo at hpt l1 HWP
                    generalize (L.getD k P0).2.2 = hi' at hpt l2 HWP
                    have y3 := hor.frozenAt (k * 3 + 1)
                    have hT := hI5.t
                    have t0 := hT.cell 0
                    have g0 := hGr.cell 0
                    simp only [List.getElem?_cons_zero] at t0 g0
                    have zt := hT.lt
                    have zg := hGr.lt
                    have m1 : IntKind.i64.wrap (lo - 3) = lo - 3 := by simp (disch := omega) only [IntWalk.i64_in]
                    have m2 : IntKind.i64.wrap (hi' + 3) = hi' + 3 := by simp (disch := omega) only [IntWalk.i64_in]
                    go_upto_region 36 with fail
                    refine wp_region_M (fun w' => w'.cell? ⟨g3, 0, none⟩ = some (.slice (some ⟨p3, 0, none⟩) fs.length c3) ∧ w'.cell? ⟨q + 1, 0, none⟩ = some (.slice (some ⟨pb, 0, none⟩) fs.length d) ∧ w'.cell? ⟨pb, k * 3 + 1, none⟩ = some (.int .i64 lo)) 15 (by kernel_rfl) ?_
                    have hSd : wr.drew.cell? ⟨g3, 0, none⟩ = some (.slice (some ⟨p3, 0, none⟩) fs.length c3) ∧ wr.drew.cell? ⟨q + 1, 0, none⟩ = some (.slice (some ⟨pb, 0, none⟩) fs.length d) ∧ wr.drew.cell? ⟨pb, k * 3 + 1, none⟩ = some (.int .i64 lo) := ⟨g0, t0, l1⟩
                    refine AnyM.take (i := 0) (v := ?_) rfl (by kernel_rfl) (by kernel_rfl) (by kernel_rfl) (by kernel_rfl) (fun _ _ _ h => h) (Or.inl ⟨by rfl, ?_⟩) (by assumption) ?_
                    rotate_left 1
                    · (intro w hSw; obtain ⟨hk1, hk2, hk3⟩ := hSw; go_simp <;> with_reducible rfl)
                    simp only [Act.put, List.getElem_toArray, List.getElem_cons_zero, List.setIfInBounds_toArray, List.set_cons_zero, List.set_cons_succ]
                    refine AnyM.take (i := 1) (v := ?_) rfl (by kernel_rfl) (by kernel_rfl) (by kernel_rfl) (by kernel_rfl) (fun _ _ _ h => h) (Or.inl ⟨by rfl, ?_⟩) (by assumption) ?_
                    rotate_left 1
                    · (intro w hSw; obtain ⟨hk1, hk2, hk3⟩ := hSw; go_simp <;> with_reducible rfl)
                    simp only [Act.put, List.getElem_toArray, List.getElem_cons_zero, List.getElem_cons_succ, List.setIfInBounds_toArray, List.set_cons_zero, List.set_cons_succ]
                    refine AnyM.take (i := 2) (v := ?_) rfl (by kernel_rfl) (by kernel_rfl) (by kernel_rfl) (by kernel_rfl) (fun _ _ _ h => h) (Or.inl ⟨by rfl, ?_⟩) (by assumption) ?_
                    rotate_left 1
                    · (intro w hSw; obtain ⟨hk1, hk2, hk3⟩ := hSw; go_simp <;> with_reducible rfl)
                    simp only [Act.put, List.getElem_toArray, List.getElem_cons_zero, List.getElem_cons_succ, List.setIfInBounds_toArray, List.set_cons_zero, List.set_cons_succ]
                    refine AnyM.take (i := 3) (v := ?_) rfl (by kernel_rfl) (by kernel_rfl) (by kernel_rfl) (by kernel_rfl) (fun _ _ _ h => h) (Or.inl ⟨by rfl, ?_⟩) (by assumption) ?_
                    rotate_left 1
                    · (intro w hSw; obtain ⟨hk1, hk2, hk3⟩ := hSw; go_simp <;> with_reducible rfl)
                    simp only [Act.put, List.getElem_toArray, List.getElem_cons_zero, List.getElem_cons_succ, List.setIfInBounds_toArray, List.set_cons_zero, List.set_cons_succ]
                    refine AnyM.take (i := 4) (v := ?_) rfl (by kernel_rfl) (by kernel_rfl) (by kernel_rfl) (by kernel_rfl) (fun _ _ _ h => h) (Or.inl ⟨by rfl, ?_⟩) (by assumption) ?_
                    rotate_left 1
                    · (intro w hSw; obtain ⟨hk1, hk2, hk3⟩ := hSw; go_simp <;> with_reducible rfl)
                    simp only [Act.put, List.getElem_toArray, List.getElem_cons_zero, List.getElem_cons_succ, List.setIfInBounds_toArray, List.set_cons_zero, List.set_cons_succ]
                    refine AnyM.take (i := 5) (v := ?_) rfl (by kernel_rfl) (by kernel_rfl) (by kernel_rfl) (by kernel_rfl) (fun _ _ _ h => h) (Or.inl ⟨by rfl, ?_⟩) (by assumption) ?_
                    rotate_left 1
                    · (intro w hSw; obtain ⟨hk1, hk2, hk3⟩ := hSw; go_simp <;> with_reducible rfl)
                    simp only [Act.put, List.getElem_toArray, List.getElem_cons_zero, List.getElem_cons_succ, List.setIfInBounds_toArray, List.set_cons_zero, List.set_cons_succ]
                    refine AnyM.take (i := 6) (v := ?_) rfl (by kernel_rfl) (by kernel_rfl) (by kernel_rfl) (by kernel_rfl) (fun _ _ _ h => h) (Or.inl ⟨by rfl, ?_⟩) (by assumption) ?_
                    rotate_left 1
                    · (intro w hSw; obtain ⟨hk1, hk2, hk3⟩ := hSw; go_simp <;> with_reducible rfl)
                    simp only [Act.put, List.getElem_toArray, List.getElem_cons_zero, List.getElem_cons_succ, List.setIfInBounds_toArray, List.set_cons_zero, List.set_cons_succ]
                    refine AnyM.take (i := 7) (v := ?_) rfl (by kernel_rfl) (by kernel_rfl) (by kernel_rfl) (by kernel_rfl) (fun _ _ _ h => h) (Or.inl ⟨by rfl, ?_⟩) (by assumption) ?_
                    rotate_left 1
                    · (intro w hSw; obtain ⟨hk1, hk2, hk3⟩ := hSw; go_simp <;> with_reducible rfl)
                    simp only [Act.put, List.getElem_toArray, List.getElem_cons_zero, List.getElem_cons_succ, List.setIfInBounds_toArray, List.set_cons_zero, List.set_cons_succ]
                    refine AnyM.take (i := 8) (v := ?_) rfl (by kernel_rfl) (by kernel_rfl) (by kernel_rfl) (by kernel_rfl) (fun _ _ _ h => h) (Or.inl ⟨by rfl, ?_⟩) (by assumption) ?_
                    rotate_left 1
                    · (intro w hSw; obtain ⟨hk1, hk2, hk3⟩ := hSw; go_simp <;> with_reducible rfl)
                    simp only [Act.put, List.getElem_toArray, List.getElem_cons_zero, List.getElem_cons_succ, List.setIfInBounds_toArray, List.set_cons_zero, List.set_cons_succ]
                    refine AnyM.take (i := 9) (v := ?_) rfl (by kernel_rfl) (by kernel_rfl) (by kernel_rfl) (by kernel_rfl) (fun _ _ _ h => h) (Or.inl ⟨by rfl, ?_⟩) (by assumption) ?_
                    rotate_left 1
                    · (intro w hSw; obtain ⟨hk1, hk2, hk3⟩ := hSw; go_simp <;> with_reducible rfl)
                    simp only [Act.put, List.getElem_toArray, List.getElem_cons_zero, List.getElem_cons_succ, List.setIfInBounds_toArray, List.set_cons_zero, List.set_cons_succ]
                    refine AnyM.take (i := 10) (v := ?_) rfl (by kernel_rfl) (by kernel_rfl) (by kernel_rfl) (by kernel_rfl) (fun _ _ _ h => h) (Or.inl ⟨by rfl, ?_⟩) (by assumption) ?_
                    rotate_left 1
                    · (intro w hSw; obtain ⟨hk1, hk2, hk3⟩ := hSw; go_simp <;> with_reducible rfl)
                    simp only [Act.put, List.getElem_toArray, List.getElem_cons_zero, List.getElem_cons_succ, List.setIfInBounds_toArray, List.set_cons_zero, List.set_cons_succ]
                    refine AnyM.next [11] (by kernel_rfl) (by simp) ?_
                    refine NextM.cons rfl (fun K hK => ?_) NextM.nil
                    go_simp
                    refine hK _ _ (fun _ => hSd) ?_
                    clear hK K
                    refine AnyM.takeAny (i := 12) (v := ?_) rfl (by kernel_rfl) (by kernel_rfl) (by kernel_rfl) (by kernel_rfl) (fun _ _ _ h => h) (Or.inl ⟨by rfl, ?_⟩) (fun h => by first | assumption | exact Bool.noConfusion (h.symm.trans (by kernel_rfl : _ = true))) ?_
                    rotate_left 1
                    · (intro w _; go_simp <;> with_reducible rfl)
                    simp only [Act.put, List.getElem_toArray, List.getElem_cons_zero, List.getElem_cons_succ, List.setIfInBounds_toArray, List.set_cons_zero, List.set_cons_succ]
                    refine AnyM.takeAny (i := 13) (v := ?_) rfl (by kernel_rfl) (by kernel_rfl) (by kernel_rfl) (by kernel_rfl) (fun _ _ _ h => h) (Or.inl ⟨by rfl, ?_⟩) (fun h => by first | assumption | exact Bool.noConfusion (h.symm.trans (by kernel_rfl : _ = true))) ?_
                    rotate_left 1
                    · (intro w _; go_simp <;> with_reducible rfl)
                    simp only [Act.put, List.getElem_toArray, List.getElem_cons_zero, List.getElem_cons_succ, List.setIfInBounds_toArray, List.set_cons_zero, List.set_cons_succ]
                    refine AnyM.takeAny (i := 14) (v := ?_) rfl (by kernel_rfl) (by kernel_rfl) (by kernel_rfl) (by kernel_rfl) (fun _ _ _ h => h) (Or.inl ⟨by rfl, ?_⟩) (fun h => by first | assumption | exact Bool.noConfusion (h.symm.trans (by kernel_rfl : _ = true))) ?_
                    rotate_left 1
                    · (intro w _; go_simp <;> with_reducible rfl)
                    simp only [Act.put, List.getElem_toArray, List.getElem_cons_zero, List.getElem_cons_succ, List.setIfInBounds_toArray, List.set_cons_zero, List.set_cons_succ]
                    refine AnyM.next [15] (by kernel_rfl) (by simp) ?_
                    refine NextM.cons rfl (fun K hK => ?_) NextM.nil
                    go_simp
                    have HMX : Hid ((if 3 < lo then lo - 3 else 0) = max 0 (lo - 3)) := by show _ = _; split <;> omega
                    obtain ⟨mx, hmx⟩ : ∃ x, (if 3 < lo then lo - 3 else 0) = x := ⟨_, rfl⟩
                    rw [hmx] at HMX
                    simp only [hmx]
                    clear hmx
                    refine hK _ _ (fun h => by simp at h) ?_
                    clear hK K
                    refine AnyM.done (by kernel_rfl) ?_ _
                    obtain ⟨W7, hW7⟩ : ∃ W, (wr.setCell ⟨p3, k * 3 + 1, none⟩ (.int .i64 mx)).drew = W := ⟨_, rfl⟩
                    have hb7 : Below V6.heap.size V6 W7 := by rw [← hW7]; exact (hbr.setCell (by show V6.heap.size ≤ p3; omega) _).drew
                    have hG7 : Blk W7 g3 30 [.slice (some ⟨p3, 0, none⟩) fs.length c3, .int .i64 (a : Int), .int .i64 ww] := by rw [← hW7]; exact blk_own hGr hor (by decide) _ _
                    have ho7 : W7.ownsRow V6.heap.size 55 3 (.slice (some ⟨p3, 0, none⟩) fs.length c3) fs.length ((ps (widL L k)).set (k * 3 + 1) (.int .i64 mx)) := by rw [← hW7]; exact (hor.stored (k * 3 + 1) (.int .i64 mx)).1.drew
                    have l3 : W7.cell? ⟨pb, k * 3 + 2, none⟩ = some (.int .i64 hi') := ((hb7.cell (p := ⟨pb, k * 3 + 2, none⟩) hpb2).trans (hbr.cell (p := ⟨pb, k * 3 + 2, none⟩) hpb2).symm).trans l2
                    have y5 := ho7.cellAt (k * 3 + 2) (by omega)
                    rw [List.getElem?_set_ne (by omega), ← hor.cellAt (k * 3 + 2) (by omega)] at y5
                    replace y5 : W7.cell? ⟨p3, k * 3 + 1 + 1, none⟩ = some (.int .i64 (widL L k)[k].2.2) := y5.trans y2
                    have y6 : W7.frozen? ⟨p3, k * 3 + 1 + 1, none⟩ = false := ho7.frozenAt (k * 3 + 2)
                    rw [hW7]
                    clear hW7 hSd l1 l2 y1 y2 y3 t0 g0 zt zg hT hI5 hGr hor m1
                    have hI7 := hIr.next hb7
                    have hT := hI7.t
                    have t0 := hT.cell 0
                    have g0 := hG7.cell 0
                    simp only [List.getElem?_cons_zero] at t0 g0
                    have zt := hT.lt
                    have zg := hG7.lt
                    go_upto_region 37 with fail
                    refine wp_region_M (fun w' => w'.cell? ⟨g3, 0, none⟩ = some (.slice (some ⟨p3, 0, none⟩) fs.length c3) ∧ w'.cell? ⟨q + 1, 0, none⟩ = some (.slice (some ⟨pb, 0, none⟩) fs.length d) ∧ w'.cell? ⟨pb, k * 3 + 2, none⟩ = some (.int .i64 hi')) 15 (by kernel_rfl) ?_
                    have hSd : W7.drew.cell? ⟨g3, 0, none⟩ = some (.slice (some ⟨p3, 0, none⟩) fs.length c3) ∧ W7.drew.cell? ⟨q + 1, 0, none⟩ = some (.slice (some ⟨pb, 0, none⟩) fs.length d) ∧ W7.drew.cell? ⟨pb, k * 3 + 2, none⟩ = some (.int .i64 hi') := ⟨g0, t0, l3⟩
                    refine AnyM.take (i := 0) (v := ?_) rfl (by kernel_rfl) (by kernel_rfl) (by kernel_rfl) (by kernel_rfl) (fun _ _ _ h => h) (Or.inl ⟨by rfl, ?_⟩) (by assumption) ?_
                    rotate_left 1
                    · (intro w hSw; obtain ⟨hk1, hk2, hk3⟩ := hSw; go_simp <;> with_reducible rfl)
                    simp only [Act.put, List.getElem_toArray, List.getElem_cons_zero, List.setIfInBounds_toArray, List.set_cons_zero, List.set_cons_succ]
                    refine AnyM.take (i := 1) (v := ?_) rfl (by kernel_rfl) (by kernel_rfl) (by kernel_rfl) (by kernel_rfl) (fun _ _ _ h => h) (Or.inl ⟨by rfl, ?_⟩) (by assumption) ?_
                    rotate_left 1
                    · (intro w hSw; obtain ⟨hk1, hk2, hk3⟩ := hSw; go_simp <;> with_reducible rfl)
                    simp only [Act.put, List.getElem_toArray, List.getElem_cons_zero, List.getElem_cons_succ, List.setIfInBounds_toArray, List.set_cons_zero, List.set_cons_succ]
                    refine AnyM.take (i := 2) (v := ?_) rfl (by kernel_rfl) (by kernel_rfl) (by kernel_rfl) (by kernel_rfl) (fun _ _ _ h => h) (Or.inl ⟨by rfl, ?_⟩) (by assumption) ?_
                    rotate_left 1
                    · (intro w hSw; obtain ⟨hk1, hk2, hk3⟩ := hSw; go_simp <;> with_reducible rfl)
                    simp only [Act.put, List.getElem_toArray, List.getElem_cons_zero, List.getElem_cons_succ, List.setIfInBounds_toArray, List.set_cons_zero, List.set_cons_succ]
                    refine AnyM.take (i := 3) (v := ?_) rfl (by kernel_rfl) (by kernel_rfl) (by kernel_rfl) (by kernel_rfl) (fun _ _ _ h => h) (Or.inl ⟨by rfl, ?_⟩) (by assumption) ?_
                    rotate_left 1
                    · (intro w hSw; obtain ⟨hk1, hk2, hk3⟩ := hSw; go_simp <;> with_reducible rfl)
                    simp only [Act.put, List.getElem_toArray, List.getElem_cons_zero, List.getElem_cons_succ, List.setIfInBounds_toArray, List.set_cons_zero, List.set_cons_succ]
                    refine AnyM.take (i := 4) (v := ?_) rfl (by kernel_rfl) (by kernel_rfl) (by kernel_rfl) (by kernel_rfl) (fun _ _ _ h => h) (Or.inl ⟨by rfl, ?_⟩) (by assumption) ?_
                    rotate_left 1
                    · (intro w hSw; obtain ⟨hk1, hk2, hk3⟩ := hSw; go_simp <;> with_reducible rfl)
                    simp only [Act.put, List.getElem_toArray, List.getElem_cons_zero, List.getElem_cons_succ, List.setIfInBounds_toArray, List.set_cons_zero, List.set_cons_succ]
                    refine AnyM.take (i := 5) (v := ?_) rfl (by kernel_rfl) (by kernel_rfl) (by kernel_rfl) (by kernel_rfl) (fun _ _ _ h => h) (Or.inl ⟨by rfl, ?_⟩) (by assumption) ?_
                    rotate_left 1
                    · (intro w hSw; obtain ⟨hk1, hk2, hk3⟩ := hSw; go_simp <;> with_reducible rfl)
                    simp only [Act.put, List.getElem_toArray, List.getElem_cons_zero, List.getElem_cons_succ, List.setIfInBounds_toArray, List.set_cons_zero, List.set_cons_succ]
                    refine AnyM.take (i := 6) (v := ?_) rfl (by kernel_rfl) (by kernel_rfl) (by kernel_rfl) (by kernel_rfl) (fun _ _ _ h => h) (Or.inl ⟨by rfl, ?_⟩) (by assumption) ?_
                    rotate_left 1
                    · (intro w hSw; obtain ⟨hk1, hk2, hk3⟩ := hSw; go_simp <;> with_reducible rfl)
                    simp only [Act.put, List.getElem_toArray, List.getElem_cons_zero, List.getElem_cons_succ, List.setIfInBounds_toArray, List.set_cons_zero, List.set_cons_succ]
                    refine AnyM.take (i := 7) (v := ?_) rfl (by kernel_rfl) (by kernel_rfl) (by kernel_rfl) (by kernel_rfl) (fun _ _ _ h => h) (Or.inl ⟨by rfl, ?_⟩) (by assumption) ?_
                    rotate_left 1
                    · (intro w hSw; obtain ⟨hk1, hk2, hk3⟩ := hSw; go_simp <;> with_reducible rfl)
                    simp only [Act.put, List.getElem_toArray, List.getElem_cons_zero, List.getElem_cons_succ, List.setIfInBounds_toArray, List.set_cons_zero, List.set_cons_succ]
                    refine AnyM.take (i := 8) (v := ?_) rfl (by kernel_rfl) (by kernel_rfl) (by kernel_rfl) (by kernel_rfl) (fun _ _ _ h => h) (Or.inl ⟨by rfl, ?_⟩) (by assumption) ?_
                    rotate_left 1
                    · (intro w hSw; obtain ⟨hk1, hk2, hk3⟩ := hSw; go_simp <;> with_reducible rfl)
                    simp only [Act.put, List.getElem_toArray, List.getElem_cons_zero, List.getElem_cons_succ, List.setIfInBounds_toArray, List.set_cons_zero, List.set_cons_succ]
                    refine AnyM.take (i := 9) (v := ?_) rfl (by kernel_rfl) (by kernel_rfl) (by kernel_rfl) (by kernel_rfl) (fun _ _ _ h => h) (Or.inl ⟨by rfl, ?_⟩) (by assumption) ?_
                    rotate_left 1
                    · (intro w hSw; obtain ⟨hk1, hk2, hk3⟩ := hSw; go_simp <;> with_reducible rfl)
                    simp only [Act.put, List.getElem_toArray, List.getElem_cons_zero, List.getElem_cons_succ, List.setIfInBounds_toArray, List.set_cons_zero, List.set_cons_succ]
                    refine AnyM.take (i := 10) (v := ?_) rfl (by kernel_rfl) (by kernel_rfl) (by kernel_rfl) (by kernel_rfl) (fun _ _ _ h => h) (Or.inl ⟨by rfl, ?_⟩) (by assumption) ?_
                    rotate_left 1
                    · (intro w hSw; obtain ⟨hk1, hk2, hk3⟩ := hSw; go_simp <;> with_reducible rfl)
                    simp only [Act.put, List.getElem_toArray, List.getElem_cons_zero, List.getElem_cons_succ, List.setIfInBounds_toArray, List.set_cons_zero, List.set_cons_succ]
                    refine AnyM.next [11] (by kernel_rfl) (by simp) ?_
                    refine NextM.cons rfl (fun K hK => ?_) NextM.nil
                    go_simp
                    refine hK _ _ (fun _ => hSd) ?_
                    clear hK K
                    refine AnyM.takeAny (i := 12) (v := ?_) rfl (by kernel_rfl) (by kernel_rfl) (by kernel_rfl) (by kernel_rfl) (fun _ _ _ h => h) (Or.inl ⟨by rfl, ?_⟩) (fun h => by first | assumption | exact Bool.noConfusion (h.symm.trans (by kernel_rfl : _ = true))) ?_
                    rotate_left 1
                    · (intro w _; go_simp <;> with_reducible rfl)
                    simp only [Act.put, List.getElem_toArray, List.getElem_cons_zero, List.getElem_cons_succ, List.setIfInBounds_toArray, List.set_cons_zero, List.set_cons_succ]
                    refine AnyM.takeAny (i := 13) (v := ?_) rfl (by kernel_rfl) (by kernel_rfl) (by kernel_rfl) (by kernel_rfl) (fun _ _ _ h => h) (Or.inl ⟨by rfl, ?_⟩) (fun h => by first | assumption | exact Bool.noConfusion (h.symm.trans (by kernel_rfl : _ = true))) ?_
                    rotate_left 1
                    · (intro w _; go_simp <;> with_reducible rfl)
                    simp only [Act.put, List.getElem_toArray, List.getElem_cons_zero, List.getElem_cons_succ, List.setIfInBounds_toArray, List.set_cons_zero, List.set_cons_succ]
                    refine AnyM.takeAny (i := 14) (v := ?_) rfl (by kernel_rfl) (by kernel_rfl) (by kernel_rfl) (by kernel_rfl) (fun _ _ _ h => h) (Or.inl ⟨by rfl, ?_⟩) (fun h => by first | assumption | exact Bool.noConfusion (h.symm.trans (by kernel_rfl : _ = true))) ?_
                    rotate_left 1
                    · (intro w _; go_simp <;> with_reducible rfl)
                    simp only [Act.put, List.getElem_toArray, List.getElem_cons_zero, List.getElem_cons_succ, List.setIfInBounds_toArray, List.set_cons_zero, List.set_cons_succ]
                    refine AnyM.next [15] (by kernel_rfl) (by simp) ?_
                    refine NextM.cons rfl (fun K hK => ?_) NextM.nil
                    go_simp
                    have HMN : Hid ((if hi' + 3 < 20000 then hi' + 3 else 20000) = min 20000 (hi' + 3)) := by show _ = _; split <;> omega
                    obtain ⟨mn, hmn⟩ : ∃ x, (if hi' + 3 < 20000 then hi' + 3 else 20000) = x := ⟨_, rfl⟩
                    rw [hmn] at HMN
                    simp only [hmn]
                    clear hmn
                    refine hK _ _ (fun h => by simp at h) ?_
                    clear hK K
                    refine AnyM.done (by kernel_rfl) ?_ _
                    obtain ⟨W8, hW8⟩ : ∃ W, (W7.setCell ⟨p3, k * 3 + 1 + 1, none⟩ (.int .i64 mn)).drew = W := ⟨_, rfl⟩
                    have hb8 : Below V6.heap.size V6 W8 := by rw [← hW8]; exact (hb7.setCell (by show V6.heap.size ≤ p3; omega) _).drew
                    have hG8 : Blk W8 g3 30 [.slice (some ⟨p3, 0, none⟩) fs.length c3, .int .i64 (a : Int), .int .i64 ww] := by rw [← hW8]; exact blk_own hG7 ho7 (by decide) _ _
                    have ho8 := (ho7.stored (k * 3 + 2) (.int .i64 mn)).1
                    rw [ps_set2_ hkw, HW1.out, HMX.out, HMN.out, ← HWP.out, ← HWS.out, ← HMN.out] at ho8
                    have ho8 : W8.ownsRow V6.heap.size 55 3 (.slice (some ⟨p3, 0, none⟩) fs.length c3) fs.length (ps (widL L (k + 1))) := by rw [← hW8]; exact ho8.drew
                    rw [hW8]
                    go_wp2
                    go_roundw
                    case rel => exact ⟨k + 1, by omega, by go_num, hb8, hG8, ho8⟩
                    case measure => simp [intOf]; omega
                    -->round3
                  · obtain rfl : k = fs.length := by omega
                    have HML : Hid ((widL L fs.length).length = fs.length) := by show _ = _; rw [widL_length, HLN.out]
                    rw [HLN.out, ← HWW.out] at HWD
                    rw [HLN.out, ← HWW.out] at HLW
                    generalize widL L fs.length = M at hor HML HWD HLW
                    have HLB : Hid (∀ P d W, Rd W P (ps M) → Calls Try.prog 19 #[.agg #[.slice P fs.length d, .int .i64 (a : Int), .int .i64 ww]] W fun r w' => (∃ A c, r = .returned (.tuple #[.slice A m c, .int .i64 0, .int .i64 0]) ∧ RdT w' 51 A (gs (lam M (a : Int) ww m).1)) ∧ Below W.heap.size W w') := fun P d W h => by
                      have := laminatedAllCap_ok P d (a : Int) ww M W h HWD.out.tr'
                      unfold LamCap at this
                      rw [HML.out, HMM.out] at this
                      exact this.mono fun r w' ⟨hh, hb⟩ => ⟨hh.elim (fun ⟨_, A, c, _, x, y⟩ => ⟨A, c, x, y⟩) (fun ⟨x, _⟩ => absurd HLW.out.1 x), hb⟩
                    have HLM2 : Hid ((lam M (a : Int) ww m).1.length = m) := lam_length HLW.out.1
                    have HAR := hide HLW.out.2
                    clear HLW HWD
                    generalize (lam M (a : Int) ww m).1 = LM2 at HLB HLM2 HAR
                    have g0 := hGr.cell 0; have g1 := hGr.cell 1; have g2 := hGr.cell 2; simp only [List.getElem?_cons_zero, List.getElem?_cons_succ] at g0 g1 g2
                    have zg := hGr.lt
                    go_upto_region 41 with (first | (go_at_call 19; refine (HLB.out _ _ _ (Rd.of_own hor)).mono ?_; rintro e wB ⟨⟨MA, mc, rfl, hrM⟩, hbB⟩))
                    have hL6 := (hLr.bel hbr).bel hbB
                    have hB6 := (hIr.next hbr).next hbB
                    go_wp2
                    go_loopw [28] (fun x wr => ∃ k : Nat, k ≤ m ∧ x = .int .i64 k ∧ Below wB.heap.size wB wr) (fun x _ => m - (intOf x).toNat)
                    case atStart => exact ⟨0, Nat.zero_le _, rfl, Below.refl _ _⟩
                    case round =>
                      obtain ⟨k, hk, rfl, hb9⟩ := hrel
                      by_cases hkm : k < m
                      · --<round4
                        have hkmi : (k : Int) < (m : Int) := by omega
                        obtain ⟨lb, lo, rfl, hlb, l1, l2⟩ := (hL6.bel hb9).1.g_at (show k < LM.length by rw [HLMH.out]; exact hkm)
                        rw [← getD_at (by rw [HLMH.out]; exact hkm) G0] at l1 l2
                        obtain ⟨mb, mo, rfl, hmb, y1, y2⟩ := (hrM.bel hb9).1.g_at (show k < LM2.length by rw [HLM2.out]; exact hkm)
                        rw [← getD_at (by rw [HLM2.out]; exact hkm) G0] at y1 y2
                        have har := HAR.out k (by rw [HLMH.out]; exact hkm)
                        generalize (LM.getD k G0).1 = llo at l1 har
                        generalize (LM.getD k G0).2 = lhi at l2 har
                        generalize (LM2.getD k G0).1 = mlo at y1 har
                        generalize (LM2.getD k G0).2 = mhi at y2 har
                        have d1 : decide (llo < mlo) = false := decide_eq_false (by omega)
                        have d2 : decide (mhi < lhi) = false := decide_eq_false (by omega)
                        go_upto_region 44 with fail
                        go_quiet (fail)
                        go_wp2
                        go_roundw
                        case rel => exact ⟨k + 1, by omega, by go_num, below_drewN hb9 _⟩
                        case measure => simp [intOf]; omega
                        -->round4
                      · obtain rfl : k = m := by omega
                        go_wp2
                        go_ret
                        exact ⟨rfl, by rw [hp]; exact (hB6.next hb9).b⟩
          · have e3 : (te != 0) = true := by simpa using h0
            clear h0
            go_wp2_with (first | (go_at_call 18; refine (HTE.out _ _ _ (Rd.of_own hIr.o)).mono ?_; rintro e wA ⟨rfl, hbA⟩))
            go_ret
            exact ⟨rfl, by rw [hp]; exact (hIr.next hbA).b⟩
end Go.Proofs.Ytdeehodekilaiaa
