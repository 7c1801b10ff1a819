/- A group of texts (tools/groups.txt): Ry51 Ry52. No condition but those that each says. -/
import Derived.Test.YtkcjiejdjdcbeaaRZ
import Derived.Test.YtkcjiejdjdcbeaaRy25
import Derived.Test.YtkcjiejdjdcbeaaRy38
import Derived.Test.YtkcjiejdjdcbeaaRy6
set_option linter.unusedSimpArgs false
set_option linter.unusedVariables false
/- The reference's skip. -/
set_option linter.unusedSimpArgs false
set_option linter.unusedVariables false
namespace Go.Proofs.Ytkcjiejdjdcbeaa
open Go.RowKit
set_option maxRecDepth 100000

theorem skAll_succ (H f : Int) (M : Nat) (l : List G) (k : Nat) : skAll H f M l (List.range (k + 1)) = skStep H f M l (skAll H f M l (List.range k)) k := by
  unfold skAll
  rw [List.range_succ, List.foldl_append]
  rfl
set_option maxHeartbeats 8000000 in
theorem refSkip_c (H f : Int) (M : Nat) (A : Option Addr) (c : Nat) (l : List G) (w : World) (hr : Rd w A (gs l)) (H0 : 1 ≤ H) (H1 : H ≤ 500) (l0 : 1 ≤ l.length) (l1 : l.length ≤ 12) (hok : OkS l) (f0 : 1 ≤ f) (f1 : f ≤ 3000) (M0 : 1 ≤ M) (M1 : M ≤ 100) :
    Calls Try.prog 54 #[.agg #[.int .i64 H, .slice A l.length c], .int .i64 f, .int .i64 (M : Int)] w fun r w' => r = .returned (.tuple #[.agg #[.int .i64 (skAll H f M l (List.range M)).2.1, .int .i64 (skAll H f M l (List.range M)).2.2.1, .int .i64 (skAll H f M l (List.range M)).2.2.2], .bool (skAll H f M l (List.range M)).1]) ∧ Below w.heap.size w w' := by
  have HGR : Hid (∀ k, k < M → ∀ W, Rd W A (gs l) → Calls Try.prog 40 #[.agg #[.int .i64 H, .slice A l.length c], .int .i64 f, .agg #[.int .i64 (redQ (k : Int) M).1, .int .i64 (redQ (k : Int) M).2]] W fun r w' => r = .returned (.tuple #[.agg #[.int .i64 (gndV H f (redQ (k : Int) M).1 (redQ (k : Int) M).2 l).1.1, .int .i64 (gndV H f (redQ (k : Int) M).1 (redQ (k : Int) M).2 l).1.2], .bool (gndV H f (redQ (k : Int) M).1 (redQ (k : Int) M).2 l).2]) ∧ Below W.heap.size W w') := by
    intro k hk W h
    obtain ⟨r1, r2, r3, r4⟩ := launch_rng hk M1
    exact refGround_c H f _ _ A c l W h ⟨H0, H1, l0, l1, hok, f0, f1, r1, r2, r3, r4, launch_gcd hk⟩
  obtain ⟨q, hq⟩ : ∃ q, w.heap.size = q := ⟨_, rfl⟩
  obtain ⟨q1, hq1⟩ : ∃ q1, q + 1 = q1 := ⟨_, rfl⟩
  obtain ⟨q2, hq2⟩ : ∃ q2, q1 + 1 = q2 := ⟨_, rfl⟩
  obtain ⟨Wa, hWa⟩ : ∃ Wa, w.alloc (.cells #[.int .i64 H, .slice A l.length c] 24) = Wa := ⟨_, rfl⟩
  have ba : Below w.heap.size w Wa := by rw [← hWa]; exact alloc_bel _ _
  have sa : Wa.heap.size = q1 := by rw [← hWa, ← hq1, ← hq]; simp
  have ka : Blk Wa q 24 [.int .i64 H, .slice A l.length c] := by rw [← hWa, ← hq]; exact Blk.new w _ [_, _]
  obtain ⟨Wb, hWb⟩ : ∃ Wb, Wa.alloc (.cells #[.int .i64 0, .int .i64 0, .int .i64 0] 87) = Wb := ⟨_, rfl⟩
  have bb : Below Wa.heap.size Wa Wb := by rw [← hWb]; exact alloc_bel _ _
  have sb : Wb.heap.size = q2 := by rw [← hWb, ← hq2, ← sa]; simp
  have kb : Blk Wb q1 87 [.int .i64 0, .int .i64 0, .int .i64 0] := by rw [← hWb, ← sa]; exact Blk.new Wa _ [_, _, _]
  obtain ⟨w0, hWc⟩ : ∃ w0, Wb.alloc (.cells #[.int .i64 0, .int .i64 0, .int .i64 0] 87) = w0 := ⟨_, rfl⟩
  have bc : Below Wb.heap.size Wb w0 := by rw [← hWc]; exact alloc_bel _ _
  have kO0 : Blk w0 q2 87 [.int .i64 0, .int .i64 0, .int .i64 0] := by rw [← hWc, ← sb]; exact Blk.new Wb _ [_, _, _]
  have hABC : ((w.alloc (.cells #[.int .i64 H, .slice A l.length c] 24)).alloc (.cells #[.int .i64 0, .int .i64 0, .int .i64 0] 87)).alloc (.cells #[.int .i64 0, .int .i64 0, .int .i64 0] 87) = w0 := by rw [hWa, hWb, hWc]
  have HW := hide hABC
  have kS0 := (ka.bel bb).bel bc
  have kR0 := kb.bel bc
  have hB0 : Below q w w0 := by
    rw [hq] at ba
    exact (ba.trans (bb.mono (by omega))).trans (bc.mono (by omega))
  clear hABC hWa hWb hWc ba bb bc ka kb sa sb
  go_enter Try.func54, Try.ntmps54
  go_upto_region 2 with fail
  try simp only [World.size_alloc, hq, hq1, hq2]
  rw [HW.out]
  go_wp2
  go_loopw [9, 10] (fun fd i wr => ∃ k : Nat, k ≤ M ∧ i = .int .i64 k ∧ fd = .bool (skAll H f M l (List.range k)).1 ∧ Below q w wr ∧ Blk wr q 24 [.int .i64 H, .slice A l.length c] ∧ Blk wr q1 87 [.int .i64 0, .int .i64 0, .int .i64 0] ∧ Blk wr q2 87 [.int .i64 (skAll H f M l (List.range k)).2.1, .int .i64 (skAll H f M l (List.range k)).2.2.1, .int .i64 (skAll H f M l (List.range k)).2.2.2]) (fun _ i _ => M - (intOf i).toNat)
  case atStart => exact ⟨0, Nat.zero_le _, rfl, rfl, hB0, kS0, kR0, kO0⟩
  case round =>
    clear kS0 kR0 kO0 hB0
    obtain ⟨k, hk, rfl, rfl, hB1, kS1, kR1, kO1⟩ := hrel
    obtain ⟨w1, rfl⟩ : ∃ w1, w1 = wr := ⟨_, rfl⟩
    have hr1 := hr.below (w' := w1) hB1 (by omega)
    have z1 : q ≤ w1.heap.size := by have := kS1.lt; omega
    have HSS := hide (skAll_succ H f M l k)
    by_cases hlt : k < M
    · have HST : Hid (skAll H f M l (List.range (k + 1)) = if pasN f (redQ (k : Int) M).1 (redQ (k : Int) M).2 l = l.length then skAll H f M l (List.range k) else (let g := grdQ H f (redQ (k : Int) M).1 (redQ (k : Int) M).2 l
        let u := if (skAll H f M l (List.range k)).1 = true then skAll H f M l (List.range k) else (true, g.1, g.2, (k : Int))
        (true, min u.2.1 g.1, if g.2 < u.2.2.1 then g.2 else u.2.2.1, if g.2 < u.2.2.1 then (k : Int) else u.2.2.2))) := HSS.out
      clear HSS
      have HLA := hide (fun W => refLaunch_c (M : Int) (k : Int) W (by omega) (by omega) (by omega) (by omega))
      have HGK := hide (HGR.out k hlt)
      have HGV : Hid (gndV H f (redQ (k : Int) M).1 (redQ (k : Int) M).2 l = if pasN f (redQ (k : Int) M).1 (redQ (k : Int) M).2 l = l.length then ((0, 0), false) else (grdQ H f (redQ (k : Int) M).1 (redQ (k : Int) M).2 l, true)) := rfl
      generalize grdQ H f (redQ (k : Int) M).1 (redQ (k : Int) M).2 l = g at HST HGV
      generalize pasN f (redQ (k : Int) M).1 (redQ (k : Int) M).2 l = pn at HST HGV
      generalize gndV H f (redQ (k : Int) M).1 (redQ (k : Int) M).2 l = gv at HGK HGV
      generalize (redQ (k : Int) M).1 = rn at HLA HGK
      generalize (redQ (k : Int) M).2 = rd at HLA HGK
      generalize skAll H f M l (List.range k) = st at kO1 HST
      obtain ⟨fb, u1, u2, u3⟩ := st
      obtain ⟨g1, g2⟩ := g
      dsimp only at kO1 HST
      have ik : (k : Int) < (M : Int) := by omega
      have kO1z : q2 < w1.heap.size := kO1.lt
      by_cases hp : pn = l.length
      ·
        have HGV2 : Hid (gv = ((0, 0), false)) := by show _ = _; rw [HGV.out, if_pos hp]
        rw [HGV2.out] at HGK
        dsimp only at HGK
        clear HGV HGV2
        have ykS_1 := kS1.lt
        have ykR_1 := kR1.lt
        have ykO_1 := kO1.lt
        have s0 := kS1.cell 0; have s1 := kS1.cell 1; simp only [List.getElem?_cons_zero, List.getElem?_cons_succ] at s0 s1
        go_upto_region 6 with fail
        go_cut [11, 12] from 18 to 26 (fun x y wx => ∃ b : Nat, x = .pointer (some ⟨b, 0, none⟩) ∧ y = .bool false ∧ Blk wx b 55 [.int .i64 0, .int .i64 0] ∧ Below w1.heap.size w1 wx ∧ w1.heap.size ≤ b)
        case first =>
          have hSd : (∀ b o, b < w1.heap.size → w1.drew.cell? ⟨b, o, none⟩ = w1.cell? ⟨b, o, none⟩) ∧ Below w1.heap.size w1 w1.drew := kp (Below.refl _ _).drew
          refine wp_region_held (S := fun w' => (∀ b o, b < w1.heap.size → w'.cell? ⟨b, o, none⟩ = w1.cell? ⟨b, o, none⟩) ∧ Below w1.heap.size w1 w') (by kernel_rfl) ?_
          change wpAnyH _ _ _ _ _ _ _ _ w1.drew
          refine wpAnyH_take (i := 0) (v := ?_) rfl (by kernel_rfl) (by kernel_rfl) (by kernel_rfl) (fun _ _ _ h => h) (Or.inl ⟨by kernel_rfl, ?_⟩) (by assumption) ?_
          rotate_left 1
          · (intro w hSw; obtain ⟨hk1, hk2⟩ := hSw; go_simp <;> with_reducible rfl)
          simp only [Act.put, List.getElem_toArray, List.getElem_cons_zero, List.setIfInBounds_toArray, List.set_cons_zero, List.set_cons_succ]
          refine wpAnyH_take (i := 1) (v := ?_) rfl (by kernel_rfl) (by kernel_rfl) (by kernel_rfl) (fun _ _ _ h => h) (Or.inl ⟨by kernel_rfl, ?_⟩) (by assumption) ?_
          rotate_left 1
          · (intro w hSw; obtain ⟨hk1, hk2⟩ := hSw; go_simp <;> with_reducible rfl)
          simp only [Act.put, List.getElem_toArray, List.getElem_cons_zero, List.getElem_cons_succ, List.setIfInBounds_toArray, List.set_cons_zero, List.set_cons_succ]
          refine wpAnyH_take (i := 2) (v := ?_) rfl (by kernel_rfl) (by kernel_rfl) (by kernel_rfl) (fun _ _ _ h => h) (Or.inl ⟨by kernel_rfl, ?_⟩) (by assumption) ?_
          rotate_left 1
          · (intro w hSw; obtain ⟨hk1, hk2⟩ := hSw; go_simp <;> with_reducible rfl)
          simp only [Act.put, List.getElem_toArray, List.getElem_cons_zero, List.getElem_cons_succ, List.setIfInBounds_toArray, List.set_cons_zero, List.set_cons_succ]
          refine wpAnyH_take (i := 3) (v := ?_) rfl (by kernel_rfl) (by kernel_rfl) (by kernel_rfl) (fun _ _ _ h => h) (Or.inl ⟨by kernel_rfl, ?_⟩) (by assumption) ?_
          rotate_left 1
          · (intro w hSw; obtain ⟨hk1, hk2⟩ := hSw; go_simp <;> with_reducible rfl)
          simp only [Act.put, List.getElem_toArray, List.getElem_cons_zero, List.getElem_cons_succ, List.setIfInBounds_toArray, List.set_cons_zero, List.set_cons_succ]
          refine nextH2 (i := 4) (j := 9) (by kernel_rfl) rfl rfl (fun K hK => ?_) (fun K hK => ?_)
          ·
            go_simp
            refine (HLA.out _).mono ?_
            rintro e_ wa ⟨rfl, hbx⟩
            have hS' := kp (bel_tr hSd.2 hSd.2.size hbx)
            try dsimp only
            refine hK _ _ hS' ?_
            clear hK K hSd
            have hSd := hS'
            clear hS'
            refine nextH2 (i := 5) (j := 9) (by kernel_rfl) rfl rfl (fun K hK => ?_) (fun K hK => ?_)
            ·
              go_simp
              refine (HGK.out _ (hr1.bel hSd.2)).mono ?_
              rintro e_ wx ⟨rfl, hby⟩
              have hS' := kp (bel_tr hSd.2 hSd.2.size hby)
              try dsimp only
              refine hK _ _ hS' ?_
              clear hK K hSd
              have hSd := hS'
              clear hS'
              refine wpAnyH_take (i := 6) (v := ?_) rfl (by kernel_rfl) (by kernel_rfl) (by kernel_rfl) (fun _ _ _ h => h) (Or.inl ⟨by kernel_rfl, ?_⟩) (by assumption) ?_
              rotate_left 1
              · (intro w hSw; obtain ⟨hk1, hk2⟩ := hSw; go_simp <;> with_reducible rfl)
              simp only [Act.put, List.getElem_toArray, List.getElem_cons_zero, List.getElem_cons_succ, List.setIfInBounds_toArray, List.set_cons_zero, List.set_cons_succ]
              refine wpAnyH_take (i := 7) (v := ?_) rfl (by kernel_rfl) (by kernel_rfl) (by kernel_rfl) (fun _ _ _ h => h) (Or.inl ⟨by kernel_rfl, ?_⟩) (by assumption) ?_
              rotate_left 1
              · (intro w hSw; obtain ⟨hk1, hk2⟩ := hSw; go_simp <;> with_reducible rfl)
              simp only [Act.put, List.getElem_toArray, List.getElem_cons_zero, List.getElem_cons_succ, List.setIfInBounds_toArray, List.set_cons_zero, List.set_cons_succ]
              refine wpAnyH_take (i := 8) (v := ?_) rfl (by kernel_rfl) (by kernel_rfl) (by kernel_rfl) (fun _ _ _ h => h) (Or.inl ⟨by kernel_rfl, ?_⟩) (by assumption) ?_
              rotate_left 1
              · (intro w hSw; obtain ⟨hk1, hk2⟩ := hSw; go_simp <;> with_reducible rfl)
              simp only [Act.put, List.getElem_toArray, List.getElem_cons_zero, List.getElem_cons_succ, List.setIfInBounds_toArray, List.set_cons_zero, List.set_cons_succ]
              refine nextH (i := 9) (by kernel_rfl) rfl (fun K hK => ?_)
              go_simp
              have hBl := Blk.new wx 55 [.int .i64 0, .int .i64 0]
              have hvr : w1.heap.size ≤ (wx).heap.size := hSd.2.size
              have hS' := kp (bel_alloc hSd.2 hSd.2.size (.cells #[.int .i64 0, .int .i64 0] 55))
              refine hK _ _ hS' ?_
              clear hK K hSd
              have hSd := hS'
              clear hS'
              obtain ⟨bb, hbb⟩ : ∃ bb, wx.heap.size = bb := ⟨_, rfl⟩
              obtain ⟨Wy, hWy⟩ : ∃ Wy, wx.alloc (.cells #[.int .i64 0, .int .i64 0] 55) = Wy := ⟨_, rfl⟩
              rw [hWy] at hSd hBl ⊢
              rw [hbb] at hBl hvr
              try simp only [hbb]
              clear hWy hbb
              obtain ⟨x0, x1⟩ : (Wy).cell? ⟨bb, 0, none⟩ = some (.int .i64 0) ∧ (Wy).cell? ⟨bb, 1, none⟩ = some (.int .i64 0) := ⟨hBl.cell 0, hBl.cell 1⟩
              obtain ⟨f0, f1⟩ : (Wy).frozen? ⟨bb, 0, none⟩ = false ∧ (Wy).frozen? ⟨bb, 1, none⟩ = false := ⟨hBl.frozen 0, hBl.frozen 1⟩
              have zb := hBl.lt
              refine nextH (i := 10) (by kernel_rfl) rfl (fun K hK => ?_)
              go_simp
              obtain ⟨WE, hWE⟩ : ∃ WE, (((Wy).setCell ⟨bb, 0, none⟩ (.int .i64 0)).setCell ⟨bb, 1, none⟩ (.int .i64 0)) = WE := ⟨_, rfl⟩
              rw [hWE]
              have hE : Blk WE (bb) 55 [.int .i64 0, .int .i64 0] := by rw [← hWE]; exact ((hBl.set_ 0 _).set_ 1 _)
              have hbE : Below w1.heap.size w1 WE := by rw [← hWE]; exact ((hSd.2.setCell hvr _).setCell hvr _)
              clear hWE x0 f0 x1 f1
              refine hK _ _ (kp hbE) ?_
              clear hK K
              refine nextH (i := 11) (by kernel_rfl) rfl (fun K hK => ?_)
              go_simp
              refine hK _ _ (kp hbE) ?_
              clear hK K
              refine wpAnyH_done (by kernel_rfl) ?_ _
              go_wp2
              go_meet
              exact ⟨_, rfl, rfl, hE, hbE, hvr⟩
            ·
              go_simp
              have hBl := Blk.new wa 55 [.int .i64 0, .int .i64 0]
              have hvr : w1.heap.size ≤ (wa).heap.size := hSd.2.size
              have hS' := kp (bel_alloc hSd.2 hSd.2.size (.cells #[.int .i64 0, .int .i64 0] 55))
              refine hK _ _ hS' ?_
              clear hK K hSd
              have hSd := hS'
              clear hS'
              obtain ⟨bb, hbb⟩ : ∃ bb, wa.heap.size = bb := ⟨_, rfl⟩
              obtain ⟨Wy, hWy⟩ : ∃ Wy, wa.alloc (.cells #[.int .i64 0, .int .i64 0] 55) = Wy := ⟨_, rfl⟩
              rw [hWy] at hSd hBl  ⊢
              rw [hbb] at hBl hvr
              try simp only [hbb]
              clear hWy hbb
              refine nextH (i := 5) (by kernel_rfl) rfl (fun K hK => ?_)
              go_simp
              refine (HGK.out _ (hr1.bel hSd.2)).mono ?_
              rintro e_ wx ⟨rfl, hby⟩
              have hS' := kp (bel_tr hSd.2 hSd.2.size hby)
              try dsimp only
              refine hK _ _ hS' ?_
              clear hK K hSd
              have hSd := hS'
              clear hS'
              replace hBl := hBl.bel hby
              refine wpAnyH_take (i := 6) (v := ?_) rfl (by kernel_rfl) (by kernel_rfl) (by kernel_rfl) (fun _ _ _ h => h) (Or.inl ⟨by kernel_rfl, ?_⟩) (by assumption) ?_
              rotate_left 1
              · (intro w hSw; obtain ⟨hk1, hk2⟩ := hSw; go_simp <;> with_reducible rfl)
              simp only [Act.put, List.getElem_toArray, List.getElem_cons_zero, List.getElem_cons_succ, List.setIfInBounds_toArray, List.set_cons_zero, List.set_cons_succ]
              refine wpAnyH_take (i := 7) (v := ?_) rfl (by kernel_rfl) (by kernel_rfl) (by kernel_rfl) (fun _ _ _ h => h) (Or.inl ⟨by kernel_rfl, ?_⟩) (by assumption) ?_
              rotate_left 1
              · (intro w hSw; obtain ⟨hk1, hk2⟩ := hSw; go_simp <;> with_reducible rfl)
              simp only [Act.put, List.getElem_toArray, List.getElem_cons_zero, List.getElem_cons_succ, List.setIfInBounds_toArray, List.set_cons_zero, List.set_cons_succ]
              refine wpAnyH_take (i := 8) (v := ?_) rfl (by kernel_rfl) (by kernel_rfl) (by kernel_rfl) (fun _ _ _ h => h) (Or.inl ⟨by kernel_rfl, ?_⟩) (by assumption) ?_
              rotate_left 1
              · (intro w hSw; obtain ⟨hk1, hk2⟩ := hSw; go_simp <;> with_reducible rfl)
              simp only [Act.put, List.getElem_toArray, List.getElem_cons_zero, List.getElem_cons_succ, List.setIfInBounds_toArray, List.set_cons_zero, List.set_cons_succ]
              obtain ⟨x0, x1⟩ : (wx).cell? ⟨bb, 0, none⟩ = some (.int .i64 0) ∧ (wx).cell? ⟨bb, 1, none⟩ = some (.int .i64 0) := ⟨hBl.cell 0, hBl.cell 1⟩
              obtain ⟨f0, f1⟩ : (wx).frozen? ⟨bb, 0, none⟩ = false ∧ (wx).frozen? ⟨bb, 1, none⟩ = false := ⟨hBl.frozen 0, hBl.frozen 1⟩
              have zb := hBl.lt
              refine nextH (i := 10) (by kernel_rfl) rfl (fun K hK => ?_)
              go_simp
              obtain ⟨WE, hWE⟩ : ∃ WE, (((wx).setCell ⟨bb, 0, none⟩ (.int .i64 0)).setCell ⟨bb, 1, none⟩ (.int .i64 0)) = WE := ⟨_, rfl⟩
              rw [hWE]
              have hE : Blk WE (bb) 55 [.int .i64 0, .int .i64 0] := by rw [← hWE]; exact ((hBl.set_ 0 _).set_ 1 _)
              have hbE : Below w1.heap.size w1 WE := by rw [← hWE]; exact ((hSd.2.setCell hvr _).setCell hvr _)
              clear hWE x0 f0 x1 f1
              refine hK _ _ (kp hbE) ?_
              clear hK K
              refine nextH (i := 11) (by kernel_rfl) rfl (fun K hK => ?_)
              go_simp
              refine hK _ _ (kp hbE) ?_
              clear hK K
              refine wpAnyH_done (by kernel_rfl) ?_ _
              go_wp2
              go_meet
              exact ⟨_, rfl, rfl, hE, hbE, hvr⟩
          ·
            go_simp
            have hB6 : Below w1.heap.size w1 (w1.alloc (.cells #[.int .i64 0, .int .i64 0] 55)).drew := (alloc_bel w1 _).drew
            have hBl0 : Blk (w1.alloc (.cells #[.int .i64 0, .int .i64 0] 55)).drew w1.heap.size 55 [.int .i64 0, .int .i64 0] := Blk.new w1 _ [.int .i64 0, .int .i64 0]
            refine hK _ _ (kp hB6) ?_
            clear hK K hSd
            have hSd := kp hB6
            have hvr : w1.heap.size ≤ w1.heap.size := Nat.le_refl _
            refine nextH (i := 4) (by kernel_rfl) rfl (fun K hK => ?_)
            go_simp
            refine (HLA.out _).mono ?_
            rintro e_ wa ⟨rfl, hbx⟩
            have hS' := kp (bel_tr hSd.2 hSd.2.size hbx)
            try dsimp only
            refine hK _ _ hS' ?_
            clear hK K hSd
            have hSd := hS'
            clear hS'
            have hBl1 := hBl0.bel hbx
            clear hBl0 hB6
            refine nextH (i := 5) (by kernel_rfl) rfl (fun K hK => ?_)
            go_simp
            refine (HGK.out _ (hr1.bel hSd.2)).mono ?_
            rintro e_ wx ⟨rfl, hby⟩
            have hS' := kp (bel_tr hSd.2 hSd.2.size hby)
            try dsimp only
            refine hK _ _ hS' ?_
            clear hK K hSd
            have hSd := hS'
            clear hS'
            have hBl := hBl1.bel hby
            clear hBl1
            refine wpAnyH_take (i := 6) (v := ?_) rfl (by kernel_rfl) (by kernel_rfl) (by kernel_rfl) (fun _ _ _ h => h) (Or.inl ⟨by kernel_rfl, ?_⟩) (by assumption) ?_
            rotate_left 1
            · (intro w hSw; obtain ⟨hk1, hk2⟩ := hSw; go_simp <;> with_reducible rfl)
            simp only [Act.put, List.getElem_toArray, List.getElem_cons_zero, List.getElem_cons_succ, List.setIfInBounds_toArray, List.set_cons_zero, List.set_cons_succ]
            refine wpAnyH_take (i := 7) (v := ?_) rfl (by kernel_rfl) (by kernel_rfl) (by kernel_rfl) (fun _ _ _ h => h) (Or.inl ⟨by kernel_rfl, ?_⟩) (by assumption) ?_
            rotate_left 1
            · (intro w hSw; obtain ⟨hk1, hk2⟩ := hSw; go_simp <;> with_reducible rfl)
            simp only [Act.put, List.getElem_toArray, List.getElem_cons_zero, List.getElem_cons_succ, List.setIfInBounds_toArray, List.set_cons_zero, List.set_cons_succ]
            refine wpAnyH_take (i := 8) (v := ?_) rfl (by kernel_rfl) (by kernel_rfl) (by kernel_rfl) (fun _ _ _ h => h) (Or.inl ⟨by kernel_rfl, ?_⟩) (by assumption) ?_
            rotate_left 1
            · (intro w hSw; obtain ⟨hk1, hk2⟩ := hSw; go_simp <;> with_reducible rfl)
            simp only [Act.put, List.getElem_toArray, List.getElem_cons_zero, List.getElem_cons_succ, List.setIfInBounds_toArray, List.set_cons_zero, List.set_cons_succ]
            obtain ⟨x0, x1⟩ : (wx).cell? ⟨w1.heap.size, 0, none⟩ = some (.int .i64 0) ∧ (wx).cell? ⟨w1.heap.size, 1, none⟩ = some (.int .i64 0) := ⟨hBl.cell 0, hBl.cell 1⟩
            obtain ⟨f0, f1⟩ : (wx).frozen? ⟨w1.heap.size, 0, none⟩ = false ∧ (wx).frozen? ⟨w1.heap.size, 1, none⟩ = false := ⟨hBl.frozen 0, hBl.frozen 1⟩
            have zb := hBl.lt
            refine nextH (i := 10) (by kernel_rfl) rfl (fun K hK => ?_)
            go_simp
            obtain ⟨WE, hWE⟩ : ∃ WE, (((wx).setCell ⟨w1.heap.size, 0, none⟩ (.int .i64 0)).setCell ⟨w1.heap.size, 1, none⟩ (.int .i64 0)) = WE := ⟨_, rfl⟩
            rw [hWE]
            have hE : Blk WE (w1.heap.size) 55 [.int .i64 0, .int .i64 0] := by rw [← hWE]; exact ((hBl.set_ 0 _).set_ 1 _)
            have hbE : Below w1.heap.size w1 WE := by rw [← hWE]; exact ((hSd.2.setCell hvr _).setCell hvr _)
            clear hWE x0 f0 x1 f1
            refine hK _ _ (kp hbE) ?_
            clear hK K
            refine nextH (i := 11) (by kernel_rfl) rfl (fun K hK => ?_)
            go_simp
            refine hK _ _ (kp hbE) ?_
            clear hK K
            refine wpAnyH_done (by kernel_rfl) ?_ _
            go_wp2
            go_meet
            exact ⟨_, rfl, rfl, hE, hbE, hvr⟩
        obtain ⟨b3, rfl, rfl, kb3, hbb3, hgb3⟩ := hcut
        obtain ⟨w2, rfl⟩ : ∃ w2, w2 = wc := ⟨_, rfl⟩
        have hb1_2 : Below w1.heap.size w1 w2 := hbb3
        have kS2 := kS1.bel hb1_2
        have kR2 := kR1.bel hb1_2
        have kO2 := kO1.bel hb1_2
        have hr2 := hr1.bel hb1_2
        have hB2 : Below q w w2 := hB1.trans (hb1_2.mono z1)
        have z2 : q ≤ w2.heap.size := by have := hb1_2.size; omega
        have ykS_2 := kS2.lt
        have ykR_2 := kR2.lt
        have ykO_2 := kO2.lt
        clear s0 s1 hB1 z1 hb1_2 kS1 kR1 kO1 hr1 ykS_1 ykR_1 ykO_1
        have s0 := kS2.cell 0; have s1 := kS2.cell 1; simp only [List.getElem?_cons_zero, List.getElem?_cons_succ] at s0 s1
        have yb3 := kb3.lt
        clear HGK HLA hbb3
        have HS2 : Hid (skAll H f M l (List.range (k + 1)) = (fb, u1, u2, u3)) := by show _ = _; rw [HST.out, if_pos hp]
        clear HST hp
        go_wp2
        go_roundw
        case rel => exact ⟨k + 1, by omega, by go_num, by rw [HS2.out], hB2, kS2, kR2, by rw [HS2.out]; exact kO2⟩
        case measure => simp [intOf]; omega
      ·
        have HGV2 : Hid (gv = ((g1, g2), true)) := by show _ = _; rw [HGV.out, if_neg hp]
        rw [HGV2.out] at HGK
        dsimp only at HGK
        clear HGV HGV2
        have ykS_1 := kS1.lt
        have ykR_1 := kR1.lt
        have ykO_1 := kO1.lt
        have s0 := kS1.cell 0; have s1 := kS1.cell 1; simp only [List.getElem?_cons_zero, List.getElem?_cons_succ] at s0 s1
        go_upto_region 6 with fail
        go_cut [11, 12] from 18 to 26 (fun x y wx => ∃ b : Nat, x = .pointer (some ⟨b, 0, none⟩) ∧ y = .bool true ∧ Blk wx b 55 [.int .i64 g1, .int .i64 g2] ∧ Below w1.heap.size w1 wx ∧ w1.heap.size ≤ b)
        case first =>
          have hSd : (∀ b o, b < w1.heap.size → w1.drew.cell? ⟨b, o, none⟩ = w1.cell? ⟨b, o, none⟩) ∧ Below w1.heap.size w1 w1.drew := kp (Below.refl _ _).drew
          refine wp_region_held (S := fun w' => (∀ b o, b < w1.heap.size → w'.cell? ⟨b, o, none⟩ = w1.cell? ⟨b, o, none⟩) ∧ Below w1.heap.size w1 w') (by kernel_rfl) ?_
          change wpAnyH _ _ _ _ _ _ _ _ w1.drew
          refine wpAnyH_take (i := 0) (v := ?_) rfl (by kernel_rfl) (by kernel_rfl) (by kernel_rfl) (fun _ _ _ h => h) (Or.inl ⟨by kernel_rfl, ?_⟩) (by assumption) ?_
          rotate_left 1
          · (intro w hSw; obtain ⟨hk1, hk2⟩ := hSw; go_simp <;> with_reducible rfl)
          simp only [Act.put, List.getElem_toArray, List.getElem_cons_zero, List.setIfInBounds_toArray, List.set_cons_zero, List.set_cons_succ]
          refine wpAnyH_take (i := 1) (v := ?_) rfl (by kernel_rfl) (by kernel_rfl) (by kernel_rfl) (fun _ _ _ h => h) (Or.inl ⟨by kernel_rfl, ?_⟩) (by assumption) ?_
          rotate_left 1
          · (intro w hSw; obtain ⟨hk1, hk2⟩ := hSw; go_simp <;> with_reducible rfl)
          simp only [Act.put, List.getElem_toArray, List.getElem_cons_zero, List.getElem_cons_succ, List.setIfInBounds_toArray, List.set_cons_zero, List.set_cons_succ]
          refine wpAnyH_take (i := 2) (v := ?_) rfl (by kernel_rfl) (by kernel_rfl) (by kernel_rfl) (fun _ _ _ h => h) (Or.inl ⟨by kernel_rfl, ?_⟩) (by assumption) ?_
          rotate_left 1
          · (intro w hSw; obtain ⟨hk1, hk2⟩ := hSw; go_simp <;> with_reducible rfl)
          simp only [Act.put, List.getElem_toArray, List.getElem_cons_zero, List.getElem_cons_succ, List.setIfInBounds_toArray, List.set_cons_zero, List.set_cons_succ]
          refine wpAnyH_take (i := 3) (v := ?_) rfl (by kernel_rfl) (by kernel_rfl) (by kernel_rfl) (fun _ _ _ h => h) (Or.inl ⟨by kernel_rfl, ?_⟩) (by assumption) ?_
          rotate_left 1
          · (intro w hSw; obtain ⟨hk1, hk2⟩ := hSw; go_simp <;> with_reducible rfl)
          simp only [Act.put, List.getElem_toArray, List.getElem_cons_zero, List.getElem_cons_succ, List.setIfInBounds_toArray, List.set_cons_zero, List.set_cons_succ]
          refine nextH2 (i := 4) (j := 9) (by kernel_rfl) rfl rfl (fun K hK => ?_) (fun K hK => ?_)
          ·
            go_simp
            refine (HLA.out _).mono ?_
            rintro e_ wa ⟨rfl, hbx⟩
            have hS' := kp (bel_tr hSd.2 hSd.2.size hbx)
            try dsimp only
            refine hK _ _ hS' ?_
            clear hK K hSd
            have hSd := hS'
            clear hS'
            refine nextH2 (i := 5) (j := 9) (by kernel_rfl) rfl rfl (fun K hK => ?_) (fun K hK => ?_)
            ·
              go_simp
              refine (HGK.out _ (hr1.bel hSd.2)).mono ?_
              rintro e_ wx ⟨rfl, hby⟩
              have hS' := kp (bel_tr hSd.2 hSd.2.size hby)
              try dsimp only
              refine hK _ _ hS' ?_
              clear hK K hSd
              have hSd := hS'
              clear hS'
              refine wpAnyH_take (i := 6) (v := ?_) rfl (by kernel_rfl) (by kernel_rfl) (by kernel_rfl) (fun _ _ _ h => h) (Or.inl ⟨by kernel_rfl, ?_⟩) (by assumption) ?_
              rotate_left 1
              · (intro w hSw; obtain ⟨hk1, hk2⟩ := hSw; go_simp <;> with_reducible rfl)
              simp only [Act.put, List.getElem_toArray, List.getElem_cons_zero, List.getElem_cons_succ, List.setIfInBounds_toArray, List.set_cons_zero, List.set_cons_succ]
              refine wpAnyH_take (i := 7) (v := ?_) rfl (by kernel_rfl) (by kernel_rfl) (by kernel_rfl) (fun _ _ _ h => h) (Or.inl ⟨by kernel_rfl, ?_⟩) (by assumption) ?_
              rotate_left 1
              · (intro w hSw; obtain ⟨hk1, hk2⟩ := hSw; go_simp <;> with_reducible rfl)
              simp only [Act.put, List.getElem_toArray, List.getElem_cons_zero, List.getElem_cons_succ, List.setIfInBounds_toArray, List.set_cons_zero, List.set_cons_succ]
              refine wpAnyH_take (i := 8) (v := ?_) rfl (by kernel_rfl) (by kernel_rfl) (by kernel_rfl) (fun _ _ _ h => h) (Or.inl ⟨by kernel_rfl, ?_⟩) (by assumption) ?_
              rotate_left 1
              · (intro w hSw; obtain ⟨hk1, hk2⟩ := hSw; go_simp <;> with_reducible rfl)
              simp only [Act.put, List.getElem_toArray, List.getElem_cons_zero, List.getElem_cons_succ, List.setIfInBounds_toArray, List.set_cons_zero, List.set_cons_succ]
              refine nextH (i := 9) (by kernel_rfl) rfl (fun K hK => ?_)
              go_simp
              have hBl := Blk.new wx 55 [.int .i64 0, .int .i64 0]
              have hvr : w1.heap.size ≤ (wx).heap.size := hSd.2.size
              have hS' := kp (bel_alloc hSd.2 hSd.2.size (.cells #[.int .i64 0, .int .i64 0] 55))
              refine hK _ _ hS' ?_
              clear hK K hSd
              have hSd := hS'
              clear hS'
              obtain ⟨bb, hbb⟩ : ∃ bb, wx.heap.size = bb := ⟨_, rfl⟩
              obtain ⟨Wy, hWy⟩ : ∃ Wy, wx.alloc (.cells #[.int .i64 0, .int .i64 0] 55) = Wy := ⟨_, rfl⟩
              rw [hWy] at hSd hBl ⊢
              rw [hbb] at hBl hvr
              try simp only [hbb]
              clear hWy hbb
              obtain ⟨x0, x1⟩ : (Wy).cell? ⟨bb, 0, none⟩ = some (.int .i64 0) ∧ (Wy).cell? ⟨bb, 1, none⟩ = some (.int .i64 0) := ⟨hBl.cell 0, hBl.cell 1⟩
              obtain ⟨f0, f1⟩ : (Wy).frozen? ⟨bb, 0, none⟩ = false ∧ (Wy).frozen? ⟨bb, 1, none⟩ = false := ⟨hBl.frozen 0, hBl.frozen 1⟩
              have zb := hBl.lt
              refine nextH (i := 10) (by kernel_rfl) rfl (fun K hK => ?_)
              go_simp
              obtain ⟨WE, hWE⟩ : ∃ WE, (((Wy).setCell ⟨bb, 0, none⟩ (.int .i64 g1)).setCell ⟨bb, 1, none⟩ (.int .i64 g2)) = WE := ⟨_, rfl⟩
              rw [hWE]
              have hE : Blk WE (bb) 55 [.int .i64 g1, .int .i64 g2] := by rw [← hWE]; exact ((hBl.set_ 0 _).set_ 1 _)
              have hbE : Below w1.heap.size w1 WE := by rw [← hWE]; exact ((hSd.2.setCell hvr _).setCell hvr _)
              clear hWE x0 f0 x1 f1
              refine hK _ _ (kp hbE) ?_
              clear hK K
              refine nextH (i := 11) (by kernel_rfl) rfl (fun K hK => ?_)
              go_simp
              refine hK _ _ (kp hbE) ?_
              clear hK K
              refine wpAnyH_done (by kernel_rfl) ?_ _
              go_wp2
              go_meet
              exact ⟨_, rfl, rfl, hE, hbE, hvr⟩
            ·
              go_simp
              have hBl := Blk.new wa 55 [.int .i64 0, .int .i64 0]
              have hvr : w1.heap.size ≤ (wa).heap.size := hSd.2.size
              have hS' := kp (bel_alloc hSd.2 hSd.2.size (.cells #[.int .i64 0, .int .i64 0] 55))
              refine hK _ _ hS' ?_
              clear hK K hSd
              have hSd := hS'
              clear hS'
              obtain ⟨bb, hbb⟩ : ∃ bb, wa.heap.size = bb := ⟨_, rfl⟩
              obtain ⟨Wy, hWy⟩ : ∃ Wy, wa.alloc (.cells #[.int .i64 0, .int .i64 0] 55) = Wy := ⟨_, rfl⟩
              rw [hWy] at hSd hBl  ⊢
              rw [hbb] at hBl hvr
              try simp only [hbb]
              clear hWy hbb
              refine nextH (i := 5) (by kernel_rfl) rfl (fun K hK => ?_)
              go_simp
              refine (HGK.out _ (hr1.bel hSd.2)).mono ?_
              rintro e_ wx ⟨rfl, hby⟩
              have hS' := kp (bel_tr hSd.2 hSd.2.size hby)
              try dsimp only
              refine hK _ _ hS' ?_
              clear hK K hSd
              have hSd := hS'
              clear hS'
              replace hBl := hBl.bel hby
              refine wpAnyH_take (i := 6) (v := ?_) rfl (by kernel_rfl) (by kernel_rfl) (by kernel_rfl) (fun _ _ _ h => h) (Or.inl ⟨by kernel_rfl, ?_⟩) (by assumption) ?_
              rotate_left 1
              · (intro w hSw; obtain ⟨hk1, hk2⟩ := hSw; go_simp <;> with_reducible rfl)
              simp only [Act.put, List.getElem_toArray, List.getElem_cons_zero, List.getElem_cons_succ, List.setIfInBounds_toArray, List.set_cons_zero, List.set_cons_succ]
              refine wpAnyH_take (i := 7) (v := ?_) rfl (by kernel_rfl) (by kernel_rfl) (by kernel_rfl) (fun _ _ _ h => h) (Or.inl ⟨by kernel_rfl, ?_⟩) (by assumption) ?_
              rotate_left 1
              · (intro w hSw; obtain ⟨hk1, hk2⟩ := hSw; go_simp <;> with_reducible rfl)
              simp only [Act.put, List.getElem_toArray, List.getElem_cons_zero, List.getElem_cons_succ, List.setIfInBounds_toArray, List.set_cons_zero, List.set_cons_succ]
              refine wpAnyH_take (i := 8) (v := ?_) rfl (by kernel_rfl) (by kernel_rfl) (by kernel_rfl) (fun _ _ _ h => h) (Or.inl ⟨by kernel_rfl, ?_⟩) (by assumption) ?_
              rotate_left 1
              · (intro w hSw; obtain ⟨hk1, hk2⟩ := hSw; go_simp <;> with_reducible rfl)
              simp only [Act.put, List.getElem_toArray, List.getElem_cons_zero, List.getElem_cons_succ, List.setIfInBounds_toArray, List.set_cons_zero, List.set_cons_succ]
              obtain ⟨x0, x1⟩ : (wx).cell? ⟨bb, 0, none⟩ = some (.int .i64 0) ∧ (wx).cell? ⟨bb, 1, none⟩ = some (.int .i64 0) := ⟨hBl.cell 0, hBl.cell 1⟩
              obtain ⟨f0, f1⟩ : (wx).frozen? ⟨bb, 0, none⟩ = false ∧ (wx).frozen? ⟨bb, 1, none⟩ = false := ⟨hBl.frozen 0, hBl.frozen 1⟩
              have zb := hBl.lt
              refine nextH (i := 10) (by kernel_rfl) rfl (fun K hK => ?_)
              go_simp
              obtain ⟨WE, hWE⟩ : ∃ WE, (((wx).setCell ⟨bb, 0, none⟩ (.int .i64 g1)).setCell ⟨bb, 1, none⟩ (.int .i64 g2)) = WE := ⟨_, rfl⟩
              rw [hWE]
              have hE : Blk WE (bb) 55 [.int .i64 g1, .int .i64 g2] := by rw [← hWE]; exact ((hBl.set_ 0 _).set_ 1 _)
              have hbE : Below w1.heap.size w1 WE := by rw [← hWE]; exact ((hSd.2.setCell hvr _).setCell hvr _)
              clear hWE x0 f0 x1 f1
              refine hK _ _ (kp hbE) ?_
              clear hK K
              refine nextH (i := 11) (by kernel_rfl) rfl (fun K hK => ?_)
              go_simp
              refine hK _ _ (kp hbE) ?_
              clear hK K
              refine wpAnyH_done (by kernel_rfl) ?_ _
              go_wp2
              go_meet
              exact ⟨_, rfl, rfl, hE, hbE, hvr⟩
          ·
            go_simp
            have hB6 : Below w1.heap.size w1 (w1.alloc (.cells #[.int .i64 0, .int .i64 0] 55)).drew := (alloc_bel w1 _).drew
            have hBl0 : Blk (w1.alloc (.cells #[.int .i64 0, .int .i64 0] 55)).drew w1.heap.size 55 [.int .i64 0, .int .i64 0] := Blk.new w1 _ [.int .i64 0, .int .i64 0]
            refine hK _ _ (kp hB6) ?_
            clear hK K hSd
            have hSd := kp hB6
            have hvr : w1.heap.size ≤ w1.heap.size := Nat.le_refl _
            refine nextH (i := 4) (by kernel_rfl) rfl (fun K hK => ?_)
            go_simp
            refine (HLA.out _).mono ?_
            rintro e_ wa ⟨rfl, hbx⟩
            have hS' := kp (bel_tr hSd.2 hSd.2.size hbx)
            try dsimp only
            refine hK _ _ hS' ?_
            clear hK K hSd
            have hSd := hS'
            clear hS'
            have hBl1 := hBl0.bel hbx
            clear hBl0 hB6
            refine nextH (i := 5) (by kernel_rfl) rfl (fun K hK => ?_)
            go_simp
            refine (HGK.out _ (hr1.bel hSd.2)).mono ?_
            rintro e_ wx ⟨rfl, hby⟩
            have hS' := kp (bel_tr hSd.2 hSd.2.size hby)
            try dsimp only
            refine hK _ _ hS' ?_
            clear hK K hSd
            have hSd := hS'
            clear hS'
            have hBl := hBl1.bel hby
            clear hBl1
            refine wpAnyH_take (i := 6) (v := ?_) rfl (by kernel_rfl) (by kernel_rfl) (by kernel_rfl) (fun _ _ _ h => h) (Or.inl ⟨by kernel_rfl, ?_⟩) (by assumption) ?_
            rotate_left 1
            · (intro w hSw; obtain ⟨hk1, hk2⟩ := hSw; go_simp <;> with_reducible rfl)
            simp only [Act.put, List.getElem_toArray, List.getElem_cons_zero, List.getElem_cons_succ, List.setIfInBounds_toArray, List.set_cons_zero, List.set_cons_succ]
            refine wpAnyH_take (i := 7) (v := ?_) rfl (by kernel_rfl) (by kernel_rfl) (by kernel_rfl) (fun _ _ _ h => h) (Or.inl ⟨by kernel_rfl, ?_⟩) (by assumption) ?_
            rotate_left 1
            · (intro w hSw; obtain ⟨hk1, hk2⟩ := hSw; go_simp <;> with_reducible rfl)
            simp only [Act.put, List.getElem_toArray, List.getElem_cons_zero, List.getElem_cons_succ, List.setIfInBounds_toArray, List.set_cons_zero, List.set_cons_succ]
            refine wpAnyH_take (i := 8) (v := ?_) rfl (by kernel_rfl) (by kernel_rfl) (by kernel_rfl) (fun _ _ _ h => h) (Or.inl ⟨by kernel_rfl, ?_⟩) (by assumption) ?_
            rotate_left 1
            · (intro w hSw; obtain ⟨hk1, hk2⟩ := hSw; go_simp <;> with_reducible rfl)
            simp only [Act.put, List.getElem_toArray, List.getElem_cons_zero, List.getElem_cons_succ, List.setIfInBounds_toArray, List.set_cons_zero, List.set_cons_succ]
            obtain ⟨x0, x1⟩ : (wx).cell? ⟨w1.heap.size, 0, none⟩ = some (.int .i64 0) ∧ (wx).cell? ⟨w1.heap.size, 1, none⟩ = some (.int .i64 0) := ⟨hBl.cell 0, hBl.cell 1⟩
            obtain ⟨f0, f1⟩ : (wx).frozen? ⟨w1.heap.size, 0, none⟩ = false ∧ (wx).frozen? ⟨w1.heap.size, 1, none⟩ = false := ⟨hBl.frozen 0, hBl.frozen 1⟩
            have zb := hBl.lt
            refine nextH (i := 10) (by kernel_rfl) rfl (fun K hK => ?_)
            go_simp
            obtain ⟨WE, hWE⟩ : ∃ WE, (((wx).setCell ⟨w1.heap.size, 0, none⟩ (.int .i64 g1)).setCell ⟨w1.heap.size, 1, none⟩ (.int .i64 g2)) = WE := ⟨_, rfl⟩
            rw [hWE]
            have hE : Blk WE (w1.heap.size) 55 [.int .i64 g1, .int .i64 g2] := by rw [← hWE]; exact ((hBl.set_ 0 _).set_ 1 _)
            have hbE : Below w1.heap.size w1 WE := by rw [← hWE]; exact ((hSd.2.setCell hvr _).setCell hvr _)
            clear hWE x0 f0 x1 f1
            refine hK _ _ (kp hbE) ?_
            clear hK K
            refine nextH (i := 11) (by kernel_rfl) rfl (fun K hK => ?_)
            go_simp
            refine hK _ _ (kp hbE) ?_
            clear hK K
            refine wpAnyH_done (by kernel_rfl) ?_ _
            go_wp2
            go_meet
            exact ⟨_, rfl, rfl, hE, hbE, hvr⟩
        obtain ⟨b3, rfl, rfl, kb3, hbb3, hgb3⟩ := hcut
        obtain ⟨w2, rfl⟩ : ∃ w2, w2 = wc := ⟨_, rfl⟩
        have hb1_2 : Below w1.heap.size w1 w2 := hbb3
        have kS2 := kS1.bel hb1_2
        have kR2 := kR1.bel hb1_2
        have kO2 := kO1.bel hb1_2
        have hr2 := hr1.bel hb1_2
        have hB2 : Below q w w2 := hB1.trans (hb1_2.mono z1)
        have z2 : q ≤ w2.heap.size := by have := hb1_2.size; omega
        have ykS_2 := kS2.lt
        have ykR_2 := kR2.lt
        have ykO_2 := kO2.lt
        clear s0 s1 hB1 z1 hb1_2 kS1 kR1 kO1 hr1 ykS_1 ykR_1 ykO_1
        have s0 := kS2.cell 0; have s1 := kS2.cell 1; simp only [List.getElem?_cons_zero, List.getElem?_cons_succ] at s0 s1
        have yb3 := kb3.lt
        clear HGK HLA hbb3
        obtain ⟨o0, o1, o2⟩ : w2.cell? ⟨q2, 0, none⟩ = some (.int .i64 u1) ∧ w2.cell? ⟨q2, 1, none⟩ = some (.int .i64 u2) ∧ w2.cell? ⟨q2, 2, none⟩ = some (.int .i64 u3) := ⟨kO2.cell 0, kO2.cell 1, kO2.cell 2⟩
        obtain ⟨f0, f1, f2⟩ : w2.frozen? ⟨q2, 0, none⟩ = false ∧ w2.frozen? ⟨q2, 1, none⟩ = false ∧ w2.frozen? ⟨q2, 2, none⟩ = false := ⟨kO2.frozen 0, kO2.frozen 1, kO2.frozen 2⟩
        have p0 := kb3.cell 0; have p1 := kb3.cell 1; simp only [List.getElem?_cons_zero, List.getElem?_cons_succ] at p0 p1
        have hq3 : ¬ b3 = q2 := by omega
        cases fb
        ·
          have HS2 : Hid (skAll H f M l (List.range (k + 1)) = (true, g1, g2, (k : Int))) := by show _ = _; rw [HST.out, if_neg hp]; simp
          clear HST hp
          go_wp2
          go_roundw
          case rel => exact ⟨k + 1, by omega, by go_num, by rw [HS2.out], (((hB2.setCell (by show q ≤ q2; omega) _).setCell (by show q ≤ q2; omega) _).setCell (by show q ≤ q2; omega) _), (((kS2.far (by show q ≠ q2; omega) _).far (by show q ≠ q2; omega) _).far (by show q ≠ q2; omega) _), (((kR2.far (by show q1 ≠ q2; omega) _).far (by show q1 ≠ q2; omega) _).far (by show q1 ≠ q2; omega) _), by rw [HS2.out]; exact (((kO2.set_ 0 _).set_ 1 _).set_ 2 _)⟩
          case measure => simp [intOf]; omega
        ·
          have HS2 : Hid (skAll H f M l (List.range (k + 1)) = (true, min u1 g1, if g2 < u2 then g2 else u2, if g2 < u2 then (k : Int) else u3)) := by show _ = _; rw [HST.out, if_neg hp]; simp
          clear HST hp
          by_cases hm : g1 < u1
          ·
            rw [show min u1 g1 = g1 by omega] at HS2
            by_cases hh : g2 < u2
            ·
              rw [if_pos hh, if_pos hh] at HS2
              have HS3 := hide HS2.out
              clear HS2
              go_upto_region 11 with fail
              obtain ⟨w3, hw3⟩ : ∃ w3, w2.setCell ⟨q2, 0, none⟩ (.int .i64 g1) = w3 := ⟨_, rfl⟩
              rw [hw3]
              have hB3 : Below q w w3 := by rw [← hw3]; exact hB2.setCell (by show q ≤ q2; omega) _
              have kS3 : Blk w3 q 24 [.int .i64 H, .slice A l.length c] := by rw [← hw3]; exact kS2.far (by show q ≠ q2; omega) _
              have kR3 : Blk w3 q1 87 [.int .i64 0, .int .i64 0, .int .i64 0] := by rw [← hw3]; exact kR2.far (by show q1 ≠ q2; omega) _
              have kO3 : Blk w3 q2 87 [.int .i64 g1, .int .i64 u2, .int .i64 u3] := by rw [← hw3]; exact kO2.set_ 0 _
              have kb4 : Blk w3 b3 55 [.int .i64 g1, .int .i64 g2] := by rw [← hw3]; exact kb3.far (by show b3 ≠ q2; omega) _
              clear hw3 o0 o1 o2 f0 f1 f2 p0 p1 kS2 kR2 kO2 hB2 kb3 s0 s1 ykS_2 ykR_2 ykO_2 yb3
              obtain ⟨o0, o1, o2⟩ : w3.cell? ⟨q2, 0, none⟩ = some (.int .i64 g1) ∧ w3.cell? ⟨q2, 1, none⟩ = some (.int .i64 u2) ∧ w3.cell? ⟨q2, 2, none⟩ = some (.int .i64 u3) := ⟨kO3.cell 0, kO3.cell 1, kO3.cell 2⟩
              obtain ⟨f0, f1, f2⟩ : w3.frozen? ⟨q2, 0, none⟩ = false ∧ w3.frozen? ⟨q2, 1, none⟩ = false ∧ w3.frozen? ⟨q2, 2, none⟩ = false := ⟨kO3.frozen 0, kO3.frozen 1, kO3.frozen 2⟩
              have p0 := kb4.cell 0; have p1 := kb4.cell 1; simp only [List.getElem?_cons_zero, List.getElem?_cons_succ] at p0 p1
              have yb4 := kb4.lt
              have yO3 := kO3.lt
              go_wp2
              go_roundw
              case rel => exact ⟨k + 1, by omega, by go_num, by rw [HS3.out], (hB3.setCell (by show q ≤ q2; omega) _).setCell (by show q ≤ q2; omega) _, (kS3.far (by show q ≠ q2; omega) _).far (by show q ≠ q2; omega) _, (kR3.far (by show q1 ≠ q2; omega) _).far (by show q1 ≠ q2; omega) _, by rw [HS3.out]; exact (kO3.set_ 1 _).set_ 2 _⟩
              case measure => simp [intOf]; omega
            ·
              rw [if_neg hh, if_neg hh] at HS2
              have HS3 := hide HS2.out
              clear HS2
              go_upto_region 11 with fail
              obtain ⟨w3, hw3⟩ : ∃ w3, w2.setCell ⟨q2, 0, none⟩ (.int .i64 g1) = w3 := ⟨_, rfl⟩
              rw [hw3]
              have hB3 : Below q w w3 := by rw [← hw3]; exact hB2.setCell (by show q ≤ q2; omega) _
              have kS3 : Blk w3 q 24 [.int .i64 H, .slice A l.length c] := by rw [← hw3]; exact kS2.far (by show q ≠ q2; omega) _
              have kR3 : Blk w3 q1 87 [.int .i64 0, .int .i64 0, .int .i64 0] := by rw [← hw3]; exact kR2.far (by show q1 ≠ q2; omega) _
              have kO3 : Blk w3 q2 87 [.int .i64 g1, .int .i64 u2, .int .i64 u3] := by rw [← hw3]; exact kO2.set_ 0 _
              have kb4 : Blk w3 b3 55 [.int .i64 g1, .int .i64 g2] := by rw [← hw3]; exact kb3.far (by show b3 ≠ q2; omega) _
              clear hw3 o0 o1 o2 f0 f1 f2 p0 p1 kS2 kR2 kO2 hB2 kb3 s0 s1 ykS_2 ykR_2 ykO_2 yb3
              obtain ⟨o0, o1, o2⟩ : w3.cell? ⟨q2, 0, none⟩ = some (.int .i64 g1) ∧ w3.cell? ⟨q2, 1, none⟩ = some (.int .i64 u2) ∧ w3.cell? ⟨q2, 2, none⟩ = some (.int .i64 u3) := ⟨kO3.cell 0, kO3.cell 1, kO3.cell 2⟩
              obtain ⟨f0, f1, f2⟩ : w3.frozen? ⟨q2, 0, none⟩ = false ∧ w3.frozen? ⟨q2, 1, none⟩ = false ∧ w3.frozen? ⟨q2, 2, none⟩ = false := ⟨kO3.frozen 0, kO3.frozen 1, kO3.frozen 2⟩
              have p0 := kb4.cell 0; have p1 := kb4.cell 1; simp only [List.getElem?_cons_zero, List.getElem?_cons_succ] at p0 p1
              have yb4 := kb4.lt
              have yO3 := kO3.lt
              go_wp2
              go_roundw
              case rel => exact ⟨k + 1, by omega, by go_num, by rw [HS3.out], hB3, kS3, kR3, by rw [HS3.out]; exact kO3⟩
              case measure => simp [intOf]; omega
          ·
            rw [show min u1 g1 = u1 by omega] at HS2
            by_cases hh : g2 < u2
            ·
              rw [if_pos hh, if_pos hh] at HS2
              have HS3 := hide HS2.out
              clear HS2
              go_upto_region 11 with fail
              obtain ⟨w3, hw3⟩ : ∃ w3, w2.setCell ⟨q2, 0, none⟩ (.int .i64 u1) = w3 := ⟨_, rfl⟩
              rw [hw3]
              have hB3 : Below q w w3 := by rw [← hw3]; exact hB2.setCell (by show q ≤ q2; omega) _
              have kS3 : Blk w3 q 24 [.int .i64 H, .slice A l.length c] := by rw [← hw3]; exact kS2.far (by show q ≠ q2; omega) _
              have kR3 : Blk w3 q1 87 [.int .i64 0, .int .i64 0, .int .i64 0] := by rw [← hw3]; exact kR2.far (by show q1 ≠ q2; omega) _
              have kO3 : Blk w3 q2 87 [.int .i64 u1, .int .i64 u2, .int .i64 u3] := by rw [← hw3]; exact kO2.set_ 0 _
              have kb4 : Blk w3 b3 55 [.int .i64 g1, .int .i64 g2] := by rw [← hw3]; exact kb3.far (by show b3 ≠ q2; omega) _
              clear hw3 o0 o1 o2 f0 f1 f2 p0 p1 kS2 kR2 kO2 hB2 kb3 s0 s1 ykS_2 ykR_2 ykO_2 yb3
              obtain ⟨o0, o1, o2⟩ : w3.cell? ⟨q2, 0, none⟩ = some (.int .i64 u1) ∧ w3.cell? ⟨q2, 1, none⟩ = some (.int .i64 u2) ∧ w3.cell? ⟨q2, 2, none⟩ = some (.int .i64 u3) := ⟨kO3.cell 0, kO3.cell 1, kO3.cell 2⟩
              obtain ⟨f0, f1, f2⟩ : w3.frozen? ⟨q2, 0, none⟩ = false ∧ w3.frozen? ⟨q2, 1, none⟩ = false ∧ w3.frozen? ⟨q2, 2, none⟩ = false := ⟨kO3.frozen 0, kO3.frozen 1, kO3.frozen 2⟩
              have p0 := kb4.cell 0; have p1 := kb4.cell 1; simp only [List.getElem?_cons_zero, List.getElem?_cons_succ] at p0 p1
              have yb4 := kb4.lt
              have yO3 := kO3.lt
              go_wp2
              go_roundw
              case rel => exact ⟨k + 1, by omega, by go_num, by rw [HS3.out], (hB3.setCell (by show q ≤ q2; omega) _).setCell (by show q ≤ q2; omega) _, (kS3.far (by show q ≠ q2; omega) _).far (by show q ≠ q2; omega) _, (kR3.far (by show q1 ≠ q2; omega) _).far (by show q1 ≠ q2; omega) _, by rw [HS3.out]; exact (kO3.set_ 1 _).set_ 2 _⟩
              case measure => simp [intOf]; omega
            ·
              rw [if_neg hh, if_neg hh] at HS2
              have HS3 := hide HS2.out
              clear HS2
              go_upto_region 11 with fail
              obtain ⟨w3, hw3⟩ : ∃ w3, w2.setCell ⟨q2, 0, none⟩ (.int .i64 u1) = w3 := ⟨_, rfl⟩
              rw [hw3]
              have hB3 : Below q w w3 := by rw [← hw3]; exact hB2.setCell (by show q ≤ q2; omega) _
              have kS3 : Blk w3 q 24 [.int .i64 H, .slice A l.length c] := by rw [← hw3]; exact kS2.far (by show q ≠ q2; omega) _
              have kR3 : Blk w3 q1 87 [.int .i64 0, .int .i64 0, .int .i64 0] := by rw [← hw3]; exact kR2.far (by show q1 ≠ q2; omega) _
              have kO3 : Blk w3 q2 87 [.int .i64 u1, .int .i64 u2, .int .i64 u3] := by rw [← hw3]; exact kO2.set_ 0 _
              have kb4 : Blk w3 b3 55 [.int .i64 g1, .int .i64 g2] := by rw [← hw3]; exact kb3.far (by show b3 ≠ q2; omega) _
              clear hw3 o0 o1 o2 f0 f1 f2 p0 p1 kS2 kR2 kO2 hB2 kb3 s0 s1 ykS_2 ykR_2 ykO_2 yb3
              obtain ⟨o0, o1, o2⟩ : w3.cell? ⟨q2, 0, none⟩ = some (.int .i64 u1) ∧ w3.cell? ⟨q2, 1, none⟩ = some (.int .i64 u2) ∧ w3.cell? ⟨q2, 2, none⟩ = some (.int .i64 u3) := ⟨kO3.cell 0, kO3.cell 1, kO3.cell 2⟩
              obtain ⟨f0, f1, f2⟩ : w3.frozen? ⟨q2, 0, none⟩ = false ∧ w3.frozen? ⟨q2, 1, none⟩ = false ∧ w3.frozen? ⟨q2, 2, none⟩ = false := ⟨kO3.frozen 0, kO3.frozen 1, kO3.frozen 2⟩
              have p0 := kb4.cell 0; have p1 := kb4.cell 1; simp only [List.getElem?_cons_zero, List.getElem?_cons_succ] at p0 p1
              have yb4 := kb4.lt
              have yO3 := kO3.lt
              go_wp2
              go_roundw
              case rel => exact ⟨k + 1, by omega, by go_num, by rw [HS3.out], hB3, kS3, kR3, by rw [HS3.out]; exact kO3⟩
              case measure => simp [intOf]; omega
    · obtain rfl : k = M := by omega
      clear HSS
      generalize hst : skAll H f k l (List.range k) = st at kO1
      have HZ := hide hst
      clear hst
      obtain ⟨fb, u1, u2, u3⟩ := st
      dsimp only at kO1
      obtain ⟨o0, o1, o2⟩ : w1.cell? ⟨q2, 0, none⟩ = some (.int .i64 u1) ∧ w1.cell? ⟨q2, 1, none⟩ = some (.int .i64 u2) ∧ w1.cell? ⟨q2, 2, none⟩ = some (.int .i64 u3) := ⟨kO1.cell 0, kO1.cell 1, kO1.cell 2⟩
      obtain ⟨r0, r1, r2⟩ : w1.cell? ⟨q1, 0, none⟩ = some (.int .i64 0) ∧ w1.cell? ⟨q1, 1, none⟩ = some (.int .i64 0) ∧ w1.cell? ⟨q1, 2, none⟩ = some (.int .i64 0) := ⟨kR1.cell 0, kR1.cell 1, kR1.cell 2⟩
      obtain ⟨f0, f1, f2⟩ : w1.frozen? ⟨q1, 0, none⟩ = false ∧ w1.frozen? ⟨q1, 1, none⟩ = false ∧ w1.frozen? ⟨q1, 2, none⟩ = false := ⟨kR1.frozen 0, kR1.frozen 1, kR1.frozen 2⟩
      have yR := kR1.lt
      have yO := kO1.lt
      go_wp2
      obtain ⟨WE, hWE⟩ : ∃ WE, ((w1.setCell ⟨q1, 0, none⟩ (.int .i64 u1)).setCell ⟨q1, 1, none⟩ (.int .i64 u2)).setCell ⟨q1, 2, none⟩ (.int .i64 u3) = WE := ⟨_, rfl⟩
      rw [hWE]
      have hE : Blk WE q1 87 [.int .i64 u1, .int .i64 u2, .int .i64 u3] := by rw [← hWE]; exact ((kR1.set_ 0 _).set_ 1 _).set_ 2 _
      have hqq : q ≤ q1 := by omega
      have hBE : Below q w WE := by rw [← hWE]; exact ((hB1.setCell hqq _).setCell hqq _).setCell hqq _
      clear hWE
      have g0 := hE.cell 0; have g1 := hE.cell 1; have g2 := hE.cell 2; simp only [List.getElem?_cons_zero, List.getElem?_cons_succ] at g0 g1 g2
      exact bodyPost_ret (v := .tuple #[.agg #[.int .i64 u1, .int .i64 u2, .int .i64 u3], .bool fb]) (by simp [results, Try.results54, go_sem, g0, g1, g2]; try rfl) rfl ⟨by rw [HZ.out], by first | exact hBE | (rw [hq]; exact hBE)⟩
end Go.Proofs.Ytkcjiejdjdcbeaa

/- Contracts: a launch of a grid. -/
set_option linter.unusedSimpArgs false
set_option linter.unusedVariables false
namespace Go.Proofs.Ytkcjiejdjdcbeaa
open Go.RowKit
set_option maxRecDepth 100000

/-- The error of a launch of a grid; the launch. -/
def lauE (g k : Int) : Int := firstE [gridE g, errIf (outB k 0 (wrap64 (g - 1))) 6]
def lauQ (g k : Int) : G × Int := if lauE g k ≠ 0 then ((0, 0), lauE g k) else (redQ k g, 0)
theorem gridE_zero {g : Int} (h : gridE g = 0) : 1 ≤ g ∧ g ≤ 100 := by
  unfold gridE at h
  rw [errIf_none (by decide)] at h
  have := outB_false.1 h
  omega
theorem lauE_zero {g k : Int} (h : lauE g k = 0) : 1 ≤ g ∧ g ≤ 100 ∧ 0 ≤ k ∧ k < g := by
  unfold lauE at h
  rw [firstE_zero, firstE_zero, errIf_none (by decide)] at h
  have h1 := gridE_zero h.1
  have h2 := h.2.1
  rw [wrap64_id (by omega) (by omega)] at h2
  have := outB_false.1 h2
  omega
set_option maxHeartbeats 2000000 in
theorem launchOf_c (g k : Int) (w : World) :
    Calls Try.prog 49 #[.int .i64 g, .int .i64 k] w fun r w' => r = .returned (.tuple #[.agg #[.int .i64 (lauQ g k).1.1, .int .i64 (lauQ g k).1.2], .int .i64 (lauQ g k).2]) ∧ Below w.heap.size w w' := by
  by_cases he : lauE g k = 0
  · have h := lauE_zero he
    have HR : Hid (lauQ g k = (redQ k g, 0)) := by show _ = _; unfold lauQ; rw [if_neg (by rw [he]; simp)]
    have HRD := hide (fun W => reduced_c k g W (by omega) (by omega) (by omega) (by omega))
    generalize redQ k g = z at HRD HR
    obtain ⟨za, zb⟩ := z
    dsimp only at HRD HR
    clear h
    have HG := hide (fun W => gridError_c g W)
    have HI := hide (fun W => isLaunchW_c g k W)
    have HE : Hid (lauE g k = firstE [gridE g, errIf (outB k 0 (wrap64 (g - 1))) 6]) := rfl
    generalize lauE g k = e at HE he HR
    generalize gridE g = eg at HG HE
    generalize outB k 0 (wrap64 (g - 1)) = bo at HI HE
    obtain ⟨p, hp⟩ : ∃ p, w.heap.size = p := ⟨_, rfl⟩
    obtain ⟨W, hW⟩ : ∃ W, w.alloc (.cells #[.int .i64 0, .int .i64 0] 26) = W := ⟨_, rfl⟩
    have hB0 : Below p w W := by rw [← hW, ← hp]; exact alloc_bel _ _
    have hX : Blk W p 26 [.int .i64 0, .int .i64 0] := by rw [← hW, ← hp]; exact Blk.new w _ [_, _]
    have HW := hide hW
    have hz := hX.lt
    clear hW
    go_enter Try.func49, Try.ntmps49
    go_upto_region 1 with fail
    try simp only [hp]
    rw [HW.out]
    go_upto_region 2 with (first
      | (go_at_call 120; refine (HG.out _).mono ?_; rintro e_ w_ ⟨rfl, rfl⟩)
      | (go_at_call 121; refine (HI.out _).mono ?_; rintro e_ w_ ⟨rfl, rfl⟩; simp only [Bool.not_not])
      | (go_at_call 91; refine (errorIf_c _ _ _).mono ?_; rintro e_ w_ ⟨rfl, rfl⟩; try simp only [Bool.not_not])
      | (go_at_call 90; refine (firstError_2 _ _ _).mono ?_; rintro e_ w_ ⟨rfl, rfl⟩))
    try simp only [Bool.not_not]
    rw [← HE.out]
    obtain ⟨w1, hw1⟩ : ∃ w1, W.alloc (.cells #[.int .i64 eg, .int .i64 (errIf bo 6)] 29) = w1 := ⟨_, rfl⟩
    rw [hw1]
    have b1 : Below W.heap.size W w1 := by rw [← hw1]; exact alloc_bel _ _
    have hX1 := hX.bel b1
    have hB1 : Below p w w1 := bel_tr hB0 (by omega) b1
    clear hw1 b1 hX hB0 HG HI HE
    have e1 : (e != 0) = false := by simpa using he
    clear he
    go_wp2_with (go_at_call 122; refine (HRD.out _).mono ?_; rintro e_ w2 ⟨rfl, hb2⟩; have hX2 := hX1.bel hb2; have hz2 := hX1.lt; have hB2 : Below p w w2 := bel_tr hB1 (by omega) hb2; obtain ⟨x0, x1, f0, f1⟩ := blk_two hX2)
    obtain ⟨WE, hWE⟩ : ∃ WE, (w2.setCell ⟨p, 0, none⟩ (.int .i64 (za))).setCell ⟨p, 1, none⟩ (.int .i64 (zb)) = WE := ⟨_, rfl⟩
    rw [hWE]
    have hE : Blk WE p 26 [.int .i64 (za), .int .i64 (zb)] := by rw [← hWE]; exact (hX2.set_ 0 _).set_ 1 _
    have hBE : Below p w WE := by rw [← hWE]; exact (hB2.setCell (Nat.le_refl _) _).setCell (Nat.le_refl _) _
    clear hWE
    have g0 := hE.cell 0; have g1 := hE.cell 1; simp only [List.getElem?_cons_zero, List.getElem?_cons_succ] at g0 g1
    exact bodyPost_ret (v := .tuple #[.agg #[.int .i64 (za), .int .i64 (zb)], .int .i64 (0)]) (by simp [results, Try.results49, go_sem, g0, g1]; try rfl) rfl ⟨by rw [HR.out], by first | exact hBE | (rw [hp]; exact hBE)⟩
  · have HR : Hid (lauQ g k = ((0, 0), lauE g k)) := by show _ = _; unfold lauQ; rw [if_pos he]
    have HG := hide (fun W => gridError_c g W)
    have HI := hide (fun W => isLaunchW_c g k W)
    have HE : Hid (lauE g k = firstE [gridE g, errIf (outB k 0 (wrap64 (g - 1))) 6]) := rfl
    generalize lauE g k = e at HE he HR
    generalize gridE g = eg at HG HE
    generalize outB k 0 (wrap64 (g - 1)) = bo at HI HE
    obtain ⟨p, hp⟩ : ∃ p, w.heap.size = p := ⟨_, rfl⟩
    obtain ⟨W, hW⟩ : ∃ W, w.alloc (.cells #[.int .i64 0, .int .i64 0] 26) = W := ⟨_, rfl⟩
    have hB0 : Below p w W := by rw [← hW, ← hp]; exact alloc_bel _ _
    have hX : Blk W p 26 [.int .i64 0, .int .i64 0] := by rw [← hW, ← hp]; exact Blk.new w _ [_, _]
    have HW := hide hW
    have hz := hX.lt
    clear hW
    go_enter Try.func49, Try.ntmps49
    go_upto_region 1 with fail
    try simp only [hp]
    rw [HW.out]
    go_upto_region 2 with (first
      | (go_at_call 120; refine (HG.out _).mono ?_; rintro e_ w_ ⟨rfl, rfl⟩)
      | (go_at_call 121; refine (HI.out _).mono ?_; rintro e_ w_ ⟨rfl, rfl⟩; simp only [Bool.not_not])
      | (go_at_call 91; refine (errorIf_c _ _ _).mono ?_; rintro e_ w_ ⟨rfl, rfl⟩; try simp only [Bool.not_not])
      | (go_at_call 90; refine (firstError_2 _ _ _).mono ?_; rintro e_ w_ ⟨rfl, rfl⟩))
    try simp only [Bool.not_not]
    rw [← HE.out]
    obtain ⟨w1, hw1⟩ : ∃ w1, W.alloc (.cells #[.int .i64 eg, .int .i64 (errIf bo 6)] 29) = w1 := ⟨_, rfl⟩
    rw [hw1]
    have b1 : Below W.heap.size W w1 := by rw [← hw1]; exact alloc_bel _ _
    have hX1 := hX.bel b1
    have hB1 : Below p w w1 := bel_tr hB0 (by omega) b1
    clear hw1 b1 hX hB0 HG HI HE
    have e1 : (e != 0) = true := by simpa using he
    clear he
    obtain ⟨x0, x1, f0, f1⟩ := blk_two hX1
    go_wp2
    obtain ⟨WE, hWE⟩ : ∃ WE, (w1.setCell ⟨p, 0, none⟩ (.int .i64 (0))).setCell ⟨p, 1, none⟩ (.int .i64 (0)) = WE := ⟨_, rfl⟩
    rw [hWE]
    have hE : Blk WE p 26 [.int .i64 (0), .int .i64 (0)] := by rw [← hWE]; exact (hX1.set_ 0 _).set_ 1 _
    have hBE : Below p w WE := by rw [← hWE]; exact (hB1.setCell (Nat.le_refl _) _).setCell (Nat.le_refl _) _
    clear hWE
    have g0 := hE.cell 0; have g1 := hE.cell 1; simp only [List.getElem?_cons_zero, List.getElem?_cons_succ] at g0 g1
    exact bodyPost_ret (v := .tuple #[.agg #[.int .i64 (0), .int .i64 (0)], .int .i64 (e)]) (by simp [results, Try.results49, go_sem, g0, g1]; try rfl) rfl ⟨by rw [HR.out], by first | exact hBE | (rw [hp]; exact hBE)⟩
/-- What no ray reaches is nothing. -/
theorem skAll_none {H f : Int} {M : Nat} {l : List G} : ∀ k, (skAll H f M l (List.range k)).1 = false → skAll H f M l (List.range k) = (false, 0, 0, 0)
  | 0, _ => rfl
  | k + 1, h => by
    rw [skAll_succ] at h ⊢
    unfold skStep at h ⊢
    split
    · rename_i hp
      rw [if_pos hp] at h
      exact skAll_none k h
    · rename_i hp
      rw [if_neg hp] at h
      simp at h
end Go.Proofs.Ytkcjiejdjdcbeaa

