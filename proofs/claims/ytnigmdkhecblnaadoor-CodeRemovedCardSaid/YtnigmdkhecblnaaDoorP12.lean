/- Contracts: a harmonic of a block, and whether a block is usable, as the reference has them. -/
import Derived.Test.YtnigmdkhecblnaaDoorP11
import Derived.Test.YtnigmdkhecblnaaDoorR5
import Derived.Test.YtnigmdkhecblnaaDoorR7
set_option linter.unusedSimpArgs false
set_option linter.unusedVariables false
namespace Go.Proofs.YtnigmdkhecblnaaDoor
open Go.RowKit
set_option maxRecDepth 100000


theorem blk4_at (samples : List (Int × Int)) (j q : Nat) (hq : q < 4) : (blk4 samples j).getD q (0, 0) = samples.getD (4 * j + q) (0, 0) := by
  have e : q = 0 ∨ q = 1 ∨ q = 2 ∨ q = 3 := by omega
  rcases e with rfl | rfl | rfl | rfl <;> rfl
theorem turnG_mid (k : Nat) (hk : k < 4) : Mid (turnG k) := by
  have e : k = 0 ∨ k = 1 ∨ k = 2 ∨ k = 3 := by omega
  rcases e with rfl | rfl | rfl | rfl <;> (unfold Mid; decide)

set_option maxHeartbeats 2000000 in
theorem refHarmonic_c (gain limit : Int) (A G : Option Addr) (cA c : Nat) (samples : List (Int × Int)) (ng : Nat) (j n : Nat) (w : World) (hs : Rd w A (gs samples)) (hl : samples.length ≤ 1000) (hj : 4 * j + 3 < samples.length) (hn : n < 4) (hb : ∀ g ∈ samples, gle 2000000 g) :
    Calls Tryd.prog 50 #[.agg #[.int .i64 gain, .int .i64 limit, .slice A samples.length cA, .slice G ng c], .int .i64 (4 * (j : Int)), .int .i64 n] w fun r w' => r = .returned (.agg #[.int .i64 (harmB samples j n).1, .int .i64 (harmB samples j n).2]) ∧ Below w.heap.size w w' := by
  have hF := Blk.new w 25 [.int .i64 gain, .int .i64 limit, .slice A samples.length cA, .slice G ng c]
  have hR := Blk.two w 25 47 [.int .i64 gain, .int .i64 limit, .slice A samples.length cA, .slice G ng c] [.int .i64 0, .int .i64 0]
  have hBD := hide (fun q => gle_harm (L := blk4 samples j) (fun q => gle_blk4 (by omega) hb j q) n q)
  have HSB := hide hb
  clear hb
  go_enter Tryd.func50, Tryd.ntmps50
  go_wp2
  obtain ⟨V, hV⟩ : ∃ V, ((w.alloc (.cells #[.int .i64 gain, .int .i64 limit, .slice A samples.length cA, .slice G ng c] 25)).alloc (.cells #[.int .i64 0, .int .i64 0] 47)).alloc (.cells #[.int .i64 0, .int .i64 0] 47) = V := ⟨_, rfl⟩
  have hwV : Below w.heap.size w V := by rw [← hV]; exact ((alloc_bel _ _).alloc (by simp) _).alloc (by simp; omega) _
  have hFV : Blk V w.heap.size 25 [.int .i64 gain, .int .i64 limit, .slice A samples.length cA, .slice G ng c] := by rw [← hV]; exact (hF.bel (alloc_bel _ _)).bel (alloc_bel _ _)
  have hRV : Blk V (w.heap.size + 1) 47 [.int .i64 0, .int .i64 0] := by rw [← hV]; exact hR.bel (alloc_bel _ _)
  have hSV : Blk V (w.heap.size + 1 + 1) 47 [.int .i64 0, .int .i64 0] := by
    rw [← hV]
    have := Blk.two (w.alloc (.cells #[.int .i64 gain, .int .i64 limit, .slice A samples.length cA, .slice G ng c] 25)) 47 47 [.int .i64 0, .int .i64 0] [.int .i64 0, .int .i64 0]
    rwa [show (w.alloc (.cells #[.int .i64 gain, .int .i64 limit, .slice A samples.length cA, .slice G ng c] 25)).heap.size = w.heap.size + 1 from World.size_alloc _ _] at this
  rw [hV]
  clear hV hF hR
  obtain ⟨r, hr1⟩ : ∃ r, w.heap.size + 1 = r := ⟨_, rfl⟩
  obtain ⟨g, hg1⟩ : ∃ g, r + 1 = g := ⟨_, rfl⟩
  rw [hr1] at hRV hSV ⊢
  rw [hg1] at hSV ⊢
  have HI := hide (show w.heap.size < r ∧ r < g by omega)
  clear hr1 hg1
  go_loopw [8] (fun i wr => ∃ (q : Nat) (x y : Int), q ≤ 4 ∧ i = .int .i64 q ∧ (x, y) = harmN (blk4 samples j) n q ∧ Below w.heap.size w wr ∧ Blk wr w.heap.size 25 [.int .i64 gain, .int .i64 limit, .slice A samples.length cA, .slice G ng c] ∧ Blk wr r 47 [.int .i64 0, .int .i64 0] ∧ Blk wr g 47 [.int .i64 x, .int .i64 y]) (fun i _ => 4 - (intOf i).toNat)
  case atStart => exact ⟨0, 0, 0, by omega, rfl, rfl, hwV, hFV, hRV, hSV⟩
  case round =>
    clear hFV hRV hSV hwV
    obtain ⟨q, x, y, hq, rfl, hxy, hbr, hF, hR, hS⟩ := hrel
    by_cases hlt : q < 4
    · have hbd := hBD.out q
      rw [← hxy] at hbd
      have hqb : ((q : Nat) : Int) * 2000000 ≤ 6000000 := by omega
      obtain ⟨bA, oA, rfl, hbA, s0, s1⟩ := hs.g_at (show 4 * j + q < samples.length by omega)
      have hsm := HSB.out _ (List.getElem_mem (show 4 * j + q < samples.length by omega))
      have hgd : (blk4 samples j).getD q (0, 0) = samples[4 * j + q]'(by omega) := by
        rw [blk4_at samples j q hlt]; simp [List.getD, show 4 * j + q < samples.length by omega]
      have hk : (-(n : Int) * q % 4).toNat < 4 := by omega
      have hnx : harmN (blk4 samples j) n (q + 1) = gadd (x, y) (gmul (samples[4 * j + q]'(by omega)) (turnG ((-(n : Int) * q) % 4).toNat)) := by
        rw [hxy, ← hgd]; rfl
      have hnq : -(n : Int) * q ≤ 0 ∧ -9 ≤ -(n : Int) * q := by
        have h1 : 0 ≤ (n : Int) * q := Int.mul_nonneg (by omega) (by omega)
        have h2 : (n : Int) * q ≤ 3 * 3 := Int.mul_le_mul (by omega) (by omega) (by omega) (by omega)
        rw [Int.neg_mul]; omega
      have hpr := gle_mulTurn hsm hk
      have HT := hide (fun W => refTurn_c (-(n : Int) * q) W (by omega) (by omega))
      have HM := turnG_mid _ hk
      have s0 := (hbr.cell (p := ⟨bA, _, none⟩) hbA).trans s0
      have s1 := (hbr.cell (p := ⟨bA, _, none⟩) hbA).trans s1
      have hbw : bA < wr.heap.size := Nat.lt_of_lt_of_le hbA hbr.size
      clear hxy hgd hk hbA
      generalize samples[4 * j + q]'(by omega) = smp at s0 s1 hsm hnx hpr
      generalize turnG ((-(n : Int) * q) % 4).toNat = tg at HT HM hnx hpr
      obtain ⟨sa, sb⟩ := smp
      obtain ⟨ta, tb⟩ := tg
      dsimp only at s0 s1
      have HG2 := hide (fun W => gmul_c (sa, sb) (ta, tb) W (by obtain ⟨e1, e2, e3, e4⟩ := hsm; unfold Mid; dsimp only at *; omega) HM)
      have HG3 := hide (fun W => gadd_c (x, y) (gmul (sa, sb) (ta, tb)) W (by obtain ⟨e1, e2, e3, e4⟩ := hbd; dsimp only at *; omega) (by obtain ⟨e1, e2, e3, e4⟩ := hpr; omega))
      generalize gadd (x, y) (gmul (sa, sb) (ta, tb)) = new at HG3 hnx
      generalize gmul (sa, sb) (ta, tb) = pr at HG2 HG3
      obtain ⟨nx, ny⟩ := new
      obtain ⟨px, py⟩ := pr
      dsimp only at HG2 HG3
      have HN : Hid ((nx, ny) = harmN (blk4 samples j) n (q + 1)) := hnx.symm
      clear hsm hpr hbd HM hnx
      have ix2 : (0 : Int) ≤ 4 * (j : Int) + (q : Int) := by omega
      have ix3 : 4 * (j : Int) + (q : Int) < (samples.length : Int) := by omega
      have ix4 : (4 * (j : Int) + (q : Int)).toNat = 4 * j + q := by omega
      have ix5 : IntKind.i64.wrap (4 * (j : Int) + (q : Int)) = 4 * (j : Int) + (q : Int) := by simp (disch := omega) only [IntWalk.i64_in]
      have ix6 : IntKind.i64.wrap (-(n : Int)) = -(n : Int) := by simp (disch := omega) only [IntWalk.i64_in]
      have ix7 : IntKind.i64.wrap (-(n : Int) * (q : Int)) = -(n : Int) * (q : Int) := by simp (disch := omega) only [IntWalk.i64_in]
      have hFl := hF.lt
      have hSl := hS.lt
      have HF := hide hF
      have HR := hide hR
      have HS := hide hS
      have c0 := hF.cell 0; have c1 := hF.cell 1; have c2 := hF.cell 2; have c3 := hF.cell 3; simp only [List.getElem?_cons_zero, List.getElem?_cons_succ] at c0 c1 c2 c3
      have y0 := hS.cell 0; have y1 := hS.cell 1; simp only [List.getElem?_cons_zero, List.getElem?_cons_succ] at y0 y1
      clear hF hR hS
      go_upto_region 5 with fail
      refine wp_region_M (fun w' => (∀ b o, b < wr.heap.size → w'.cell? ⟨b, o, none⟩ = wr.cell? ⟨b, o, none⟩) ∧ Below wr.heap.size wr w') 15 (by kernel_rfl) ?_
      have hSd := kp_refl wr
      refine AnyM.take (i := 0) (v := ?_) rfl (by kernel_rfl) (by kernel_rfl) (by kernel_rfl) (by kernel_rfl) (fun _ _ _ h => h) (Or.inl ⟨by rfl, ?_⟩) (by assumption) ?_
      rotate_left 1
      · (intro w hSw; (try dsimp only at hSw); go_simp <;> with_reducible rfl)
      try simp only [Act.put]
      refine AnyM.take (i := 1) (v := ?_) rfl (by kernel_rfl) (by kernel_rfl) (by kernel_rfl) (by kernel_rfl) (fun _ _ _ h => h) (Or.inl ⟨by rfl, ?_⟩) (by assumption) ?_
      rotate_left 1
      · (intro w hSw; (try dsimp only at hSw); go_simp <;> with_reducible rfl)
      try simp only [Act.put]
      refine AnyM.take (i := 2) (v := ?_) rfl (by kernel_rfl) (by kernel_rfl) (by kernel_rfl) (by kernel_rfl) (fun _ _ _ h => h) (Or.inl ⟨by rfl, ?_⟩) (by assumption) ?_
      rotate_left 1
      · (intro w hSw; (try dsimp only at hSw); go_simp <;> with_reducible rfl)
      try simp only [Act.put]
      refine AnyM.take (i := 3) (v := ?_) rfl (by kernel_rfl) (by kernel_rfl) (by kernel_rfl) (by kernel_rfl) (fun _ _ _ h => h) (Or.inl ⟨by rfl, ?_⟩) (by assumption) ?_
      rotate_left 1
      · (intro w hSw; (try dsimp only at hSw); go_simp <;> with_reducible rfl)
      try simp only [Act.put]
      refine AnyM.take (i := 4) (v := ?_) rfl (by kernel_rfl) (by kernel_rfl) (by kernel_rfl) (by kernel_rfl) (fun _ _ _ h => h) (Or.inl ⟨by rfl, ?_⟩) (by assumption) ?_
      rotate_left 1
      · (intro w hSw; (try dsimp only at hSw); go_simp <;> with_reducible rfl)
      try simp only [Act.put]
      refine AnyM.take (i := 5) (v := ?_) rfl (by kernel_rfl) (by kernel_rfl) (by kernel_rfl) (by kernel_rfl) (fun _ _ _ h => h) (Or.inl ⟨by rfl, ?_⟩) (by assumption) ?_
      rotate_left 1
      · (intro w hSw; (try dsimp only at hSw); go_simp <;> with_reducible rfl)
      try simp only [Act.put]
      refine AnyM.take (i := 6) (v := ?_) rfl (by kernel_rfl) (by kernel_rfl) (by kernel_rfl) (by kernel_rfl) (fun _ _ _ h => h) (Or.inl ⟨by rfl, ?_⟩) (by assumption) ?_
      rotate_left 1
      · (intro w hSw; (try dsimp only at hSw); go_simp <;> with_reducible rfl)
      try simp only [Act.put]
      refine AnyM.take (i := 7) (v := ?_) rfl (by kernel_rfl) (by kernel_rfl) (by kernel_rfl) (by kernel_rfl) (fun _ _ _ h => h) (Or.inl ⟨by rfl, ?_⟩) (by assumption) ?_
      rotate_left 1
      · (intro w hSw; (try dsimp only at hSw); go_simp <;> with_reducible rfl)
      try simp only [Act.put]
      refine AnyM.take (i := 8) (v := ?_) rfl (by kernel_rfl) (by kernel_rfl) (by kernel_rfl) (by kernel_rfl) (fun _ _ _ h => h) (Or.inl ⟨by rfl, ?_⟩) (by assumption) ?_
      rotate_left 1
      · (intro w hSw; (try dsimp only at hSw); go_simp <;> with_reducible rfl)
      try simp only [Act.put]
      refine AnyM.take (i := 9) (v := ?_) rfl (by kernel_rfl) (by kernel_rfl) (by kernel_rfl) (by kernel_rfl) (fun _ _ _ h => h) (Or.inl ⟨by rfl, ?_⟩) (by assumption) ?_
      rotate_left 1
      · (intro w hSw; (try dsimp only at hSw); go_simp <;> with_reducible rfl)
      try simp only [Act.put]
      refine AnyM.take (i := 10) (v := ?_) rfl (by kernel_rfl) (by kernel_rfl) (by kernel_rfl) (by kernel_rfl) (fun _ _ _ h => h) (Or.inl ⟨by rfl, ?_⟩) (by assumption) ?_
      rotate_left 1
      · (intro w hSw; (try dsimp only at hSw); go_simp <;> with_reducible rfl)
      try simp only [Act.put]
      refine AnyM.take (i := 11) (v := ?_) rfl (by kernel_rfl) (by kernel_rfl) (by kernel_rfl) (by kernel_rfl) (fun _ _ _ h => h) (Or.inl ⟨by rfl, ?_⟩) (by assumption) ?_
      rotate_left 1
      · (intro w hSw; (try dsimp only at hSw); go_simp <;> with_reducible rfl)
      try simp only [Act.put]
      refine AnyM.next [12] (by kernel_rfl) (by simp) ?_
      refine NextM.cons rfl (fun K hK => ?_) NextM.nil
      go_simp
      refine (HT.out _).mono ?_
      rintro e w7 ⟨rfl, hb7⟩
      have hB7 := bel_tr hSd.2 hSd.2.size hb7
      clear hSd
      have hSd := kp hB7
      try dsimp only
      refine hK.out _ _ (fun _ => hSd) ?_
      clear hK K
      try simp only [Act.put]
      refine AnyM.next [13] (by kernel_rfl) (by simp) ?_
      refine NextM.cons rfl (fun K hK => ?_) NextM.nil
      go_simp
      refine (HG2.out _).mono ?_
      rintro e w8 ⟨rfl, hb8⟩
      have hB8 := bel_tr hB7 hB7.size hb8
      clear hSd
      have hSd := kp hB8
      try dsimp only
      refine hK.out _ _ (fun _ => hSd) ?_
      clear hK K
      try simp only [Act.put]
      refine AnyM.next [14] (by kernel_rfl) (by simp) ?_
      refine NextM.cons rfl (fun K hK => ?_) NextM.nil
      go_simp
      refine (HG3.out _).mono ?_
      rintro e w9 ⟨rfl, hb9⟩
      have hB9 := bel_tr hB8 hB8.size hb9
      clear hSd
      have hSd := kp hB9
      try dsimp only
      refine hK.out _ _ (fun _ => hSd) ?_
      clear hK K
      try simp only [Act.put]
      refine AnyM.next [15] (by kernel_rfl) (by simp) ?_
      refine NextM.cons rfl (fun K hK => ?_) NextM.nil
      have hS9 := HS.out.bel hB9
      have hF9 := HF.out.bel hB9
      have hR9 := HR.out.bel hB9
      have z0 := hS9.cell 0; have z1 := hS9.cell 1; simp only [List.getElem?_cons_zero, List.getElem?_cons_succ] at z0 z1
      have f0 := hS9.frozen 0
      have f1 := hS9.frozen 1
      go_simp
      refine hK.out _ _ (fun h => by simp at h) ?_
      clear hK K
      try simp only [Act.put]
      refine AnyM.done (by kernel_rfl) ?_ _
      have hi := HI.out
      have hGE := hS9.set2 (.int .i64 nx) (.int .i64 ny)
      have hFE := (hF9.far (p := ⟨g, 0, none⟩) (by show w.heap.size ≠ g; omega) (.int .i64 nx)).far (p := ⟨g, 1, none⟩) (by show w.heap.size ≠ g; omega) (.int .i64 ny)
      have hRE := (hR9.far (p := ⟨g, 0, none⟩) (by show r ≠ g; omega) (.int .i64 nx)).far (p := ⟨g, 1, none⟩) (by show r ≠ g; omega) (.int .i64 ny)
      have hbE : Below w.heap.size w ((w9.setCell ⟨g, 0, none⟩ (.int .i64 nx)).setCell ⟨g, 1, none⟩ (.int .i64 ny)) := ((bel_tr hbr hbr.size hB9).setCell (p := ⟨g, 0, none⟩) (by show w.heap.size ≤ g; omega) _).setCell (p := ⟨g, 1, none⟩) (by show w.heap.size ≤ g; omega) _
      generalize (w9.setCell ⟨g, 0, none⟩ (.int .i64 nx)).setCell ⟨g, 1, none⟩ (.int .i64 ny) = WE at hGE hFE hRE hbE ⊢
      clear hSd hB7 hB8 hB9 hb7 hb8 hb9 hS9 hF9 hR9 z0 z1 f0 f1 hi
      go_wp2
      go_roundw
      case rel => exact ⟨q + 1, nx, ny, by omega, by go_num, HN.out, hbE, hFE, hRE, hGE⟩
      case measure => simp [intOf]; omega
    · obtain rfl : q = 4 := by omega
      have HXY : Hid ((x, y) = harmB samples j n) := hxy
      have y0 := hS.cell 0; have y1 := hS.cell 1; simp only [List.getElem?_cons_zero, List.getElem?_cons_succ] at y0 y1
      have z0 := hR.cell 0; have z1 := hR.cell 1; simp only [List.getElem?_cons_zero, List.getElem?_cons_succ] at z0 z1
      have f0 := hR.frozen 0
      have f1 := hR.frozen 1
      have hE := hR.set2 (.int .i64 x) (.int .i64 y)
      have hi := HI.out
      have hbE : Below w.heap.size w ((wr.setCell ⟨r, 0, none⟩ (.int .i64 x)).setCell ⟨r, 1, none⟩ (.int .i64 y)) := (hbr.setCell (p := ⟨r, 0, none⟩) (by show w.heap.size ≤ r; omega) _).setCell (p := ⟨r, 1, none⟩) (by show w.heap.size ≤ r; omega) _
      go_wp2
      generalize (wr.setCell ⟨r, 0, none⟩ (.int .i64 x)).setCell ⟨r, 1, none⟩ (.int .i64 y) = WE at hE hbE ⊢
      have t0 := hE.cell 0
      have t1 := hE.cell 1
      simp only [List.getElem?_cons_zero, List.getElem?_cons_succ] at t0 t1
      refine bodyPost_ret (by simp [results, Tryd.results50, go_sem, t0, t1]; try rfl) rfl ?_
      exact ⟨by rw [← HXY.out], hbE⟩

theorem allU_false {us : List Bool} {first q : Nat} (hq : q < 4) (h : us.getD (first + q) false = false) : allU us first = false := by
  cases hb : allU us first
  · rfl
  · exact absurd (allU_iff.1 hb q hq) (by rw [h]; decide)

set_option maxHeartbeats 1000000 in
theorem refWhole_c (gain limit : Int) (A G : Option Addr) (cA c : Nat) (samples : List (Int × Int)) (gaps : List Int) (j : Nat) (w : World) (hs : Rd w A (gs samples)) (hr : Rd w G (ints gaps)) (hg : gaps.length ≤ 1000) (hj : j ≤ 1000) (hb : ∀ g ∈ samples, gle 2000000 g) :
    Calls Tryd.prog 48 #[.agg #[.int .i64 gain, .int .i64 limit, .slice A samples.length cA, .slice G gaps.length c], .int .i64 (4 * (j : Int))] w fun r w' => r = .returned (.bool (allU (usableL limit samples gaps) (4 * j))) ∧ Below w.heap.size w w' := by
  have hF := Blk.new w 25 [.int .i64 gain, .int .i64 limit, .slice A samples.length cA, .slice G gaps.length c]
  have hA := alloc_bel w (.cells #[.int .i64 gain, .int .i64 limit, .slice A samples.length cA, .slice G gaps.length c] 25)
  have HU := hide (fun (i : Nat) (h : i < samples.length) W h1 h2 => refUsable_c gain limit A G cA c samples gaps i W h1 h2 hg h (fun g hg => by have := hb g hg; simp only [gle] at this; omega))
  have hul : (usableL limit samples gaps).length = samples.length := by simp [usableL]
  have HUG := hide (fun k (hk : k < samples.length) => show (usableL limit samples gaps).getD k false = usableB limit samples gaps k by simp [usableL, List.getD, hk])
  have HRA := hide (hs.bel hA)
  have HRB := hide (hr.bel hA)
  clear hb hs hr
  generalize usableL limit samples gaps = us at hul HUG ⊢
  go_enter Tryd.func48, Tryd.ntmps48
  go_wp2
  obtain ⟨W, hW⟩ : ∃ W, w.alloc (.cells #[.int .i64 gain, .int .i64 limit, .slice A samples.length cA, .slice G gaps.length c] 25) = W := ⟨_, rfl⟩
  rw [hW] at hF hA HRA HRB ⊢
  clear hW
  have hFl := hF.lt
  have c0 := hF.cell 0; have c1 := hF.cell 1; have c2 := hF.cell 2; have c3 := hF.cell 3; simp only [List.getElem?_cons_zero, List.getElem?_cons_succ] at c0 c1 c2 c3
  clear hF
  go_loopw [5] (fun i wr => ∃ q : Nat, q ≤ 4 ∧ i = .int .i64 q ∧ Below W.heap.size W wr ∧ ∀ p, p < q → us.getD (4 * j + p) false = true) (fun i _ => 4 - (intOf i).toNat)
  case atStart => exact ⟨0, by omega, rfl, Below.refl _ _, fun p h => by omega⟩
  case round =>
    obtain ⟨q, hq, rfl, hbr, hall⟩ := hrel
    have HALL := hide hall
    clear hall
    by_cases hlt : q < 4
    · have kr := (kp hbr).1
      have ix5 : IntKind.i64.wrap (4 * (j : Int) + (q : Int)) = 4 * (j : Int) + (q : Int) := by simp (disch := omega) only [IntWalk.i64_in]
      by_cases hin : 4 * j + q < samples.length
      · have d1 : decide ((samples.length : Int) ≤ 4 * (j : Int) + (q : Int)) = false := by simp; omega
        have HUk := hide (HU.out (4 * j + q) hin wr (HRA.out.bel hbr) (HRB.out.bel hbr))
        rw [← HUG.out _ hin, show ((4 * j + q : Nat) : Int) = 4 * (j : Int) + (q : Int) by omega] at HUk
        cases hbu : us.getD (4 * j + q) false
        · rw [hbu] at HUk
          have HE : Hid (allU us (4 * j) = false) := allU_false hlt hbu
          clear hbu
          go_wp2_with (first | (go_at_call 19; refine HUk.out.mono ?_; rintro e w6 ⟨rfl, hb6⟩))
          go_ret
          exact ⟨by rw [HE.out]; rfl, bel_tr hA hA.size (bel_tr hbr hbr.size hb6)⟩
        · rw [hbu] at HUk
          have H2 : Hid (∀ p, p < q + 1 → us.getD (4 * j + p) false = true) := fun p hp => by
            by_cases e : p = q
            · subst e; exact hbu
            · exact HALL.out p (by omega)
          clear hbu
          go_wp2_with (first | (go_at_call 19; refine HUk.out.mono ?_; rintro e w6 ⟨rfl, hb6⟩))
          go_roundw
          case rel => exact ⟨q + 1, by omega, by go_num, bel_tr hbr hbr.size hb6, H2.out⟩
          case measure => simp [intOf]; omega
      · have d1 : decide ((samples.length : Int) ≤ 4 * (j : Int) + (q : Int)) = true := by simp; omega
        have HE : Hid (allU us (4 * j) = false) := allU_false hlt (by simp [List.getD, show us.length ≤ 4 * j + q by omega])
        go_wp2
        go_ret
        exact ⟨by rw [HE.out]; rfl, bel_tr hA hA.size hbr⟩
    · obtain rfl : q = 4 := by omega
      have HE : Hid (allU us (4 * j) = true) := allU_iff.2 HALL.out
      go_wp2
      go_ret
      exact ⟨by rw [HE.out]; rfl, bel_tr hA hA.size hbr⟩
end Go.Proofs.YtnigmdkhecblnaaDoor
