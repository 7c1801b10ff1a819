/- Contracts: usable samples, checks and copies of frames, as the reference has them. -/
import Derived.Test.YtnigmdkhecblnaaDoorR4
set_option linter.unusedSimpArgs false
set_option linter.unusedVariables false
namespace Go.Proofs.YtnigmdkhecblnaaDoor
open Go.RowKit
set_option maxRecDepth 100000

def sizeV (n : Int) : Int := if n < -n then -n else n
theorem sizeV_lt {n limit : Int} : decide (sizeV n < limit) = !outB n (-(limit - 1)) (limit - 1) := by
  unfold sizeV
  cases h : outB n (-(limit - 1)) (limit - 1)
  · have h1 := outB_false.1 h
    simp only [Bool.not_false, decide_eq_true_eq]
    split <;> omega
  · have h1 := outB_true.1 h
    simp only [Bool.not_true, decide_eq_false_iff_not]
    split <;> omega

set_option maxHeartbeats 1000000 in
theorem refUsable_c (gain limit : Int) (A G : Option Addr) (cA c : Nat) (samples : List (Int × Int)) (gaps : List Int) (i : Nat) (w : World) (hs : Rd w A (gs samples)) (hr : Rd w G (ints gaps)) (hg : gaps.length ≤ 1000)
    (hi : i < samples.length) (hb : ∀ g ∈ samples, -4000000 ≤ g.1 ∧ g.1 ≤ 4000000 ∧ -4000000 ≤ g.2 ∧ g.2 ≤ 4000000) :
    Calls Tryd.prog 19 #[.agg #[.int .i64 gain, .int .i64 limit, .slice A samples.length cA, .slice G gaps.length c], .int .i64 i] w fun r w' => r = .returned (.bool (usableB limit samples gaps i)) ∧ Below w.heap.size w w' := by
  have HU : Hid (usableB limit samples gaps i = (!hasB gaps i && (decide (sizeV samples[i].1 < limit) && decide (sizeV samples[i].2 < limit)))) := by
    show _ = _
    rw [sizeV_lt, sizeV_lt, usableB, List.getD, List.getElem?_eq_getElem hi, hasB, beyB]
    simp only [Option.getD_some]
    generalize outB samples[i].1 (-(limit - 1)) (limit - 1) = b1
    generalize outB samples[i].2 (-(limit - 1)) (limit - 1) = b2
    generalize gaps.contains (i : Int) = b3
    cases b1 <;> cases b2 <;> cases b3 <;> rfl
  obtain ⟨l1, l2, l3, l4⟩ := hb _ (List.getElem_mem hi)
  have HZ1 := hide (fun W => size_c samples[i].1 W (by omega) (by omega))
  have HZ2 := hide (fun W => size_c samples[i].2 W (by omega) (by omega))
  have HH := hide (fun W (h : Rd W G (ints gaps)) => has_c gaps i G c W h hg)
  have e1 : (if samples[i].1 < -samples[i].1 then -samples[i].1 else samples[i].1) = sizeV samples[i].1 := rfl
  have e2 : (if samples[i].2 < -samples[i].2 then -samples[i].2 else samples[i].2) = sizeV samples[i].2 := rfl
  rw [e1] at HZ1
  rw [e2] at HZ2
  obtain ⟨b, off, rfl, hbl, z0, z1⟩ := hs.g_at hi
  have a0 := ((alloc_bel w (.cells #[.int .i64 gain, .int .i64 limit, .slice (some ⟨b, off, none⟩) samples.length cA, .slice G gaps.length c] 25)).cell (p := ⟨b, off + i * 2, none⟩) hbl).trans z0
  have a1 := ((alloc_bel w (.cells #[.int .i64 gain, .int .i64 limit, .slice (some ⟨b, off, none⟩) samples.length cA, .slice G gaps.length c] 25)).cell (p := ⟨b, off + i * 2 + 1, none⟩) hbl).trans z1
  clear e1 e2 z0 z1 hb
  generalize sizeV samples[i].1 = m1 at HU HZ1
  generalize sizeV samples[i].2 = m2 at HU HZ2
  generalize samples[i] = g at a0 a1 HZ1 HZ2 l1 l2 l3 l4
  obtain ⟨x, y⟩ := g
  dsimp only at a0 a1 HZ1 HZ2 l1 l2 l3 l4
  generalize hh : hasB gaps i = bh at HU
  rw [hh] at HH
  clear hh
  generalize usableB limit samples gaps i = res at HU
  have hfin : ∀ n, Below w.heap.size w (((w.alloc (.cells #[.int .i64 gain, .int .i64 limit, .slice (some ⟨b, off, none⟩) samples.length cA, .slice G gaps.length c] 25)).alloc (.cells #[.int .i64 x, .int .i64 y] 47)).drewN n) := fun n => below_drewN (((alloc_bel w _)).alloc (by simp) _) n
  have HFin := hide hfin
  clear hfin
  cases bh
  · cases h1 : decide (m1 < limit)
    · rw [h1] at HU
      go_enter Tryd.func19, Tryd.ntmps19
      go_wp2
      go_quiet ((first
        | (go_at_call 20; exact quiet_eq (HH.out _ (((hr.bel (alloc_bel _ _)).bel (alloc_bel _ _)).drewN _)))
        | (go_at_call 54; exact quiet_eq (HZ1.out _))
        | (go_at_call 54; exact quiet_eq (HZ2.out _))))
      go_wp2
      go_ret
      exact ⟨by rw [HU.out]; rfl, HFin.out _⟩
    · rw [h1] at HU
      cases h2 : decide (m2 < limit) <;> (
      rw [h2] at HU
      go_enter Tryd.func19, Tryd.ntmps19
      go_wp2
      go_quiet ((first
        | (go_at_call 20; exact quiet_eq (HH.out _ (((hr.bel (alloc_bel _ _)).bel (alloc_bel _ _)).drewN _)))
        | (go_at_call 54; exact quiet_eq (HZ1.out _))
        | (go_at_call 54; exact quiet_eq (HZ2.out _))))
      go_wp2
      go_ret
      exact ⟨by rw [HU.out]; rfl, HFin.out _⟩)
  · go_enter Tryd.func19, Tryd.ntmps19
    go_wp2
    go_quiet ((first
      | (go_at_call 20; exact quiet_eq (HH.out _ (((hr.bel (alloc_bel _ _)).bel (alloc_bel _ _)).drewN _)))))
    go_wp2
    go_ret
    exact ⟨by rw [HU.out]; rfl, HFin.out _⟩

theorem usableL_getD (limit : Int) (samples : List (Int × Int)) (gaps : List Int) (k : Nat) (hk : k < samples.length) : (usableL limit samples gaps).getD k false = usableB limit samples gaps k := by
  simp [usableL, List.getD, hk]

theorem refUsableIn_c (gain limit : Int) (A G : Option Addr) (cA c : Nat) (samples : List (Int × Int)) (gaps : List Int) (b : Bool) (w : World) (hs : Rd w A (gs samples)) (hr : Rd w G (ints gaps)) (hn : samples.length ≤ 1000) (hg : gaps.length ≤ 1000)
    (hb : ∀ g ∈ samples, -4000000 ≤ g.1 ∧ g.1 ≤ 4000000 ∧ -4000000 ≤ g.2 ∧ g.2 ≤ 4000000) :
    Calls Tryd.prog 47 #[.agg #[.int .i64 gain, .int .i64 limit, .slice A samples.length cA, .slice G gaps.length c], .bool b] w fun r w' =>
      (∃ A' c', r = .returned (.slice A' (idxL (usableL limit samples gaps) b samples.length).length c') ∧ RdT w' 3 A' (ints (idxL (usableL limit samples gaps) b samples.length))) ∧ Below w.heap.size w w' := by
  obtain ⟨i0, hi, iz0, iz1, iz2⟩ := info_parts Tryd.info3
  have HU := hide (fun (i : Nat) (h : i < samples.length) W (h1 : Rd W A (gs samples)) (h2 : Rd W G (ints gaps)) => refUsable_c gain limit A G cA c samples gaps i W h1 h2 hg h hb)
  clear hb
  have hX := Blk.new w 25 [.int .i64 gain, .int .i64 limit, .slice A samples.length cA, .slice G gaps.length c]
  go_enter Tryd.func47, Tryd.ntmps47
  go_wp2
  obtain ⟨V, hV⟩ : ∃ V, w.alloc (.cells #[.int .i64 gain, .int .i64 limit, .slice A samples.length cA, .slice G gaps.length c] 25) = V := ⟨_, rfl⟩
  have hwV : Below w.heap.size w V := by rw [← hV]; exact alloc_bel _ _
  have hXV : Blk V w.heap.size 25 [.int .i64 gain, .int .i64 limit, .slice A samples.length cA, .slice G gaps.length c] := by rw [← hV]; exact hX
  rw [hV]
  clear hV hX
  have hzV := hXV.lt
  go_loopw [5, 6] (fun v i wr => ∃ k : Nat, k ≤ samples.length ∧ i = .int .i64 k ∧ Below V.heap.size V wr ∧ wr.ownsRow V.heap.size 3 1 v (idxL (usableL limit samples gaps) b k).length (ints (idxL (usableL limit samples gaps) b k))) (fun _ i _ => samples.length - (intOf i).toNat)
  case atStart => exact ⟨0, Nat.zero_le _, rfl, Below.refl _ _, World.ownsRow_nil _ _ _ _⟩
  case round =>
    obtain ⟨k, hk, rfl, hbr, hown⟩ := hrel
    have hXr := hXV.below hbr hzV
    have c0 := hXr.cell 0; have c1 := hXr.cell 1; have c2 := hXr.cell 2; have c3 := hXr.cell 3; simp only [List.getElem?_cons_zero, List.getElem?_cons_succ] at c0 c1 c2 c3
    have hwr := tr hwV hbr hwV.size
    have hle := idxL_le (usableL limit samples gaps) b k
    by_cases hlt : k < samples.length
    · have hF : Hid (idxL (usableL limit samples gaps) b (k + 1) = if usableB limit samples gaps k = b then idxL (usableL limit samples gaps) b k ++ [(k : Int)] else idxL (usableL limit samples gaps) b k) := by
        show _ = _
        rw [idxL, usableL_getD _ _ _ _ hlt]
      have HUk := hide (HU.out k hlt wr (hs.bel hwr) (hr.bel hwr))
      generalize usableB limit samples gaps k = u at HUk hF
      by_cases hub : u = b
      · have hF2 : Hid (idxL (usableL limit samples gaps) b (k + 1) = idxL (usableL limit samples gaps) b k ++ [(k : Int)]) := by have := hF.out; rw [if_pos hub] at this; exact this
        subst hub
        clear hF
        have e1 : (u == u) = true := by simp
        generalize idxL (usableL limit samples gaps) u k = L at hown hle hF2
        go_wp2_with (first
          | (go_at_call 19; refine HUk.out.mono ?_; rintro e w4 ⟨rfl, hb4⟩; have hown4 := ownsRow_bel hown hb4; have hb4' := tr hbr hb4 hbr.size)
          | (at_builtin; refine wpList_append_own _ rfl _ _ 23 rfl V.heap.size 3 i0 (.int .i64 0) 1 8 Tryd.underlying23 hi iz0 iz1 iz2 rfl (by decide) _ _ _ rfl (hown4.alloc _) ⟨w4.heap.size, 0, none⟩ 1 1 [.int .i64 (k : Int)] rfl rfl (cell_one_new _ _ _) (by simp [Value.oneCell']) (by unfold maxLen; omega) (by omega) (by have := hb4'.size; simp; omega) ?_; intro v' w5 hown5 hg5 _))
        have hb5 : Below V.heap.size V w5 := (hb4'.alloc hb4'.size _).grown hg5 (by have := hb4'.size; simp; omega) (fun j hj => (hown4.lt j hj).1)
        go_roundw
        case rel => exact ⟨k + 1, by omega, by go_num, hb5, by rw [hF2.out, List.length_append, ints_append]; exact hown5⟩
        case measure => simp [intOf]; omega
      · have hF2 : Hid (idxL (usableL limit samples gaps) b (k + 1) = idxL (usableL limit samples gaps) b k) := by have := hF.out; rw [if_neg hub] at this; exact this
        have e1 : (u == b) = false := by simpa using hub
        clear hF hub
        generalize idxL (usableL limit samples gaps) b k = L at hown hle hF2
        go_wp2_with (first
          | (go_at_call 19; refine HUk.out.mono ?_; rintro e w4 ⟨rfl, hb4⟩))
        go_roundw
        case rel => exact ⟨k + 1, by omega, by go_num, tr hbr hb4 hbr.size, by rw [hF2.out]; exact ownsRow_bel hown hb4⟩
        case measure => simp [intOf]; omega
    · obtain rfl : k = samples.length := by omega
      obtain ⟨A', c', rfl⟩ := ownsRow_slice hown
      go_wp2
      go_ret
      exact ⟨⟨A', c', rfl, RdT.of_own hown⟩, hwr⟩

theorem RdT.far {w : World} {t e : TypeId} {A : Option Addr} {xs cs : List Value} {g : Nat} (h : RdT w t A xs) (hB : Blk w g e cs) (hte : t ≠ e) (i : Nat) (u : Value) : RdT (w.setCell ⟨g, i, none⟩ u) t A xs := h.keep (KeepT.setCell hB hte i u)

theorem copyFrame_c (gain limit : Int) (A G : Option Addr) (cA c : Nat) (samples : List (Int × Int)) (gaps : List Int) (w : World) (hs : Rd w A (gs samples)) (hr : Rd w G (ints gaps)) (hn : samples.length ≤ 1000) (hg : gaps.length ≤ 1000) :
    Calls Tryd.prog 9 #[.agg #[.int .i64 gain, .int .i64 limit, .slice A samples.length cA, .slice G gaps.length c]] w fun r w' =>
      (∃ A' cA' G' c', r = .returned (.agg #[.int .i64 gain, .int .i64 limit, .slice A' samples.length cA', .slice G' gaps.length c']) ∧ RdT w' 47 A' (gs samples) ∧ RdT w' 3 G' (ints gaps)) ∧ Below w.heap.size w w' := by
  have hX := Blk.new w 25 [.int .i64 gain, .int .i64 limit, .slice A samples.length cA, .slice G gaps.length c]
  go_enter Tryd.func9, Tryd.ntmps9
  go_wp2
  obtain ⟨V, hV⟩ : ∃ V, (w.alloc (.cells #[.int .i64 gain, .int .i64 limit, .slice A samples.length cA, .slice G gaps.length c] 25)).alloc (.cells #[.int .i64 0, .int .i64 0, .slice none 0 0, .slice none 0 0] 25) = V := ⟨_, rfl⟩
  have hwV : Below w.heap.size w V := by rw [← hV]; exact (alloc_bel _ _).alloc (by simp) _
  have hXV : Blk V w.heap.size 25 [.int .i64 gain, .int .i64 limit, .slice A samples.length cA, .slice G gaps.length c] := by rw [← hV]; exact hX.bel (alloc_bel _ _)
  have hYV : Blk V (w.heap.size + 1) 25 [.int .i64 0, .int .i64 0, .slice none 0 0, .slice none 0 0] := by
    rw [← hV]
    have h := Blk.new (w.alloc (.cells #[.int .i64 gain, .int .i64 limit, .slice A samples.length cA, .slice G gaps.length c] 25)) 25 [.int .i64 0, .int .i64 0, .slice none 0 0, .slice none 0 0]
    rwa [show (w.alloc (.cells #[.int .i64 gain, .int .i64 limit, .slice A samples.length cA, .slice G gaps.length c] 25)).heap.size = w.heap.size + 1 from by simp] at h
  rw [hV]
  clear hV hX
  have hzV := hXV.lt
  have c0 := hXV.cell 0; have c1 := hXV.cell 1; have c2 := hXV.cell 2; have c3 := hXV.cell 3; simp only [List.getElem?_cons_zero, List.getElem?_cons_succ] at c0 c1 c2 c3
  have HS := hide (show V.cell? ⟨w.heap.size, 0, none⟩ = some (.int .i64 gain) ∧ V.cell? ⟨w.heap.size, 1, none⟩ = some (.int .i64 limit) ∧ V.cell? ⟨w.heap.size, 2, none⟩ = some (.slice A samples.length cA) ∧ V.cell? ⟨w.heap.size, 3, none⟩ = some (.slice G gaps.length c) ∧ Below w.heap.size w V from ⟨c0, c1, c2, c3, hwV⟩)
  clear c0 c1 c2 c3
  obtain ⟨y, hy⟩ : ∃ y, w.heap.size + 1 = y := ⟨_, rfl⟩
  have hyw : w.heap.size ≤ y := by omega
  have hyn : w.heap.size ≠ y := by omega
  rw [hy] at hYV ⊢
  clear hy
  go_region_held3 (fun w' => w'.cell? ⟨w.heap.size, 0, none⟩ = some (.int .i64 gain) ∧ w'.cell? ⟨w.heap.size, 1, none⟩ = some (.int .i64 limit) ∧ w'.cell? ⟨w.heap.size, 2, none⟩ = some (.slice A samples.length cA) ∧ w'.cell? ⟨w.heap.size, 3, none⟩ = some (.slice G gaps.length c) ∧ Below w.heap.size w w')
    (first | with_reducible exact hd4_drew HS.out | with_reducible exact H3.out | with_reducible exact H4.out | with_reducible exact hd4_set (hd4_set (hd4_set (hd4_set H4.out hyn hyn hyn hyn hyw) hyn hyn hyn hyn hyw) hyn hyn hyn hyn hyw) hyn hyn hyn hyn hyw)
    (first
      | (go_at_call 28; refine (copyGausses_c samples A cA _ ((hs.bel hwV).drewN 1) (by omega)).mono ?_; rintro e w3 ⟨⟨A3, d3, rfl, hr3⟩, hb3⟩; have H3 := hide (hd4_bel (hd4_drew HS.out) hb3 (by simp; omega)); have hY3 := (hYV.drewN 1).bel hb3)
      | (go_at_call 10; refine (copyInts_c gaps G c _ (hr.bel H3.out.2.2.2.2) (by omega)).mono ?_; rintro e w4 ⟨⟨G4, d4, rfl, hr4⟩, hb4⟩; have H4 := hide (hd4_bel H3.out hb4 H3.out.2.2.2.2.size); have hY4 := hY3.bel hb4; have hr34 := hr3.bel hb4; have y0 := hY4.cell 0; have y1 := hY4.cell 1; have y2 := hY4.cell 2; have y3 := hY4.cell 3; simp only [List.getElem?_cons_zero, List.getElem?_cons_succ] at y0 y1 y2 y3; have f0 := hY4.frozen 0; have f1 := hY4.frozen 1; have f2 := hY4.frozen 2; have f3 := hY4.frozen 3))
  have g1 := hY4.set_ 0 (.int .i64 gain)
  have g2 := g1.set_ 1 (.int .i64 limit)
  have g3 := g2.set_ 2 (.slice A3 samples.length d3)
  have g4 := g3.set_ 3 (.slice G4 gaps.length d4)
  have k1 := (((hr34.far hY4 (by decide) 0 (.int .i64 gain)).far g1 (by decide) 1 (.int .i64 limit)).far g2 (by decide) 2 (.slice A3 samples.length d3)).far g3 (by decide) 3 (.slice G4 gaps.length d4)
  have k2 := (((hr4.far hY4 (by decide) 0 (.int .i64 gain)).far g1 (by decide) 1 (.int .i64 limit)).far g2 (by decide) 2 (.slice A3 samples.length d3)).far g3 (by decide) 3 (.slice G4 gaps.length d4)
  have hbE := (hd4_set (hd4_set (hd4_set (hd4_set (q := ⟨y, 0, none⟩) (u := .int .i64 gain) H4.out hyn hyn hyn hyn hyw) (q := ⟨y, 1, none⟩) (u := .int .i64 limit) hyn hyn hyn hyn hyw) (q := ⟨y, 2, none⟩) (u := .slice A3 samples.length d3) hyn hyn hyn hyn hyw) (q := ⟨y, 3, none⟩) (u := .slice G4 gaps.length d4) hyn hyn hyn hyn hyw).2.2.2.2
  generalize ((((w4.setCell ⟨y, 0, none⟩ (.int .i64 gain)).setCell ⟨y, 1, none⟩ (.int .i64 limit)).setCell ⟨y, 2, none⟩ (.slice A3 samples.length d3)).setCell ⟨y, 3, none⟩ (.slice G4 gaps.length d4)) = WE at g4 k1 k2 hbE ⊢
  clear g1 g2 g3 y0 y1 y2 y3 f0 f1 f2 f3 hY4
  have z0 := g4.cell 0
  have z1 := g4.cell 1
  have z2 := g4.cell 2
  have z3 := g4.cell 3
  simp only [List.set_cons_zero, List.set_cons_succ, List.getElem?_cons_zero, List.getElem?_cons_succ] at z0 z1 z2 z3
  go_wp2
  refine bodyPost_ret (by simp [results, Tryd.results9, go_sem, z0, z1, z2, z3]; try rfl) rfl ?_
  exact ⟨⟨A3, d3, G4, d4, rfl, k1, k2⟩, hbE⟩
end Go.Proofs.YtnigmdkhecblnaaDoor
