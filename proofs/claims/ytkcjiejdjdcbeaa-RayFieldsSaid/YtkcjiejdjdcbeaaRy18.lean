/- The launches of a grid, one by one: an iterator. -/
import Derived.Test.YtkcjiejdjdcbeaaRy17
set_option linter.unusedSimpArgs false
set_option linter.unusedVariables false
set_option linter.unusedSimpArgs false
set_option linter.unusedVariables false
namespace Go.Proofs.Ytkcjiejdjdcbeaa
open Go.RowKit
set_option maxRecDepth 100000
attribute [local go_sem] Oper.semAt_some



/-- What a launch is handed as. -/
def IsShot (H f grid : Int) (A : Option Addr) (L c : Nat) (k : Nat) (args : Array Value) (_ : World) : Prop :=
  args = #[.int .i64 (k : Int), .agg #[.int .i64 H, .slice A L c, .int .i64 f, .int .i64 (redQ (k : Int) grid).1, .int .i64 (redQ (k : Int) grid).2]]
theorem range_split {m k : Nat} (hk : k < m) : List.range m = List.range k ++ k :: ((List.range m).drop (k + 1)) := by
  have h1 : (List.range m).take k = List.range k := by rw [List.take_range]; congr 1; omega
  have h2 : k < (List.range m).length := by simp [hk]
  have h3 : (List.range m)[k] :: (List.range m).drop (k + 1) = (List.range m).drop k := List.getElem_cons_drop ..
  rw [List.getElem_range] at h3
  rw [h3, ← h1, List.take_append_drop]
set_option maxHeartbeats 8000000 in
theorem shots_iter (N : Nat) (hN : 1 ≤ N) (p1 p2 p3 : Nat) (H f : Int) (M : Nat) (hM0 : 1 ≤ M) (hM : M ≤ 1000) (A : Option Addr) (L c : Nat) (S : Nat → Prop) (hS1 : S p1) (hS2 : S p2) (hS3 : S p3) (w : World) (k1 : Blk w p1 3 [.int .i64 (M : Int)]) (k2 : Blk w p2 3 [.int .i64 f]) (k3 : Blk w p3 24 [.int .i64 H, .slice A L c]) :
    Iter4 Try.prog N 165 #[.pointer (some ⟨p1, 0, none⟩), .pointer (some ⟨p2, 0, none⟩), .pointer (some ⟨p3, 0, none⟩)] (IsShot H f M A L c) (List.range M) S 0 w := by
  intro lp J W hk hJ hJA hY h0
  have HJ := hide hJ
  have HY := hide hY
  have b1 : Blk W p1 3 [.int .i64 (M : Int)] := (hk.block p1 hS1).trans k1
  have b2 : Blk W p2 3 [.int .i64 f] := (hk.block p2 hS2).trans k2
  have b3 : Blk W p3 24 [.int .i64 H, .slice A L c] := (hk.block p3 hS3).trans k3
  clear hJ hY k1 k2 k3 hJA hk
  obtain ⟨q, hq⟩ : ∃ q, W.heap.size = q := ⟨_, rfl⟩
  rw [hq] at HY
  have g0 := b1.cell 0
  simp only [List.getElem?_cons_zero] at g0
  refine callsIn_of_wp Try.func165 rfl trivial ?_ rfl
  simp only [Try.ntmps165, List.size_toArray, List.length_cons, List.length_nil, Nat.reduceAdd, Nat.reduceSub, Array.replicate_succ, Array.replicate_zero, List.push_toArray, List.append_toArray, List.nil_append, List.cons_append]
  gi_wp2
  gi_loopw [8] (fun i wr => ∃ k : Nat, k ≤ M ∧ i = .int .i64 k ∧ q ≤ wr.heap.size ∧ Blk wr p1 3 [.int .i64 (M : Int)] ∧ Blk wr p2 3 [.int .i64 f] ∧ Blk wr p3 24 [.int .i64 H, .slice A L c] ∧ J (List.range k) wr) (fun i _ => M - (intOf i).toNat)
  case atStart => exact ⟨0, Nat.zero_le _, rfl, by omega, b1, b2, b3, h0⟩
  case round =>
    clear b1 b2 b3 h0 g0
    obtain ⟨k, hkM, rfl, hqs, b1, b2, b3, hj⟩ := hrel
    by_cases hlt : k < M
    · have HR := hide (fun W => reduced_c (k : Int) (M : Int) W (by omega) (by omega) (by omega) (by omega))
      have hX : Hid (List.range M = List.range k ++ k :: ((List.range M).drop (k + 1))) := range_split hlt
      have hT : Hid (List.range (k + 1) = List.range k ++ [k]) := List.range_succ
      have HV : Hid (∀ W', IsShot H f M A L c k #[.int .i64 (k : Int), .agg #[.int .i64 H, .slice A L c, .int .i64 f, .int .i64 (redQ (k : Int) M).1, .int .i64 (redQ (k : Int) M).2]] W') := fun _ => rfl
      generalize redQ (k : Int) (M : Int) = z at HR HV
      obtain ⟨za, zb⟩ := z
      dsimp only at HR HV
      have g1 := b1.cell 0
      have g2 := b2.cell 0
      simp only [List.getElem?_cons_zero] at g1 g2
      have z1 := b1.lt
      have z2 := b2.lt
      have z3 := b3.lt
      gi_upto_region 3 with fail
      refine wpIn_wide.2 ?_
      go_wp2
      go_cut [6] from 11 to 13 (fun v wr2 => ∃ b : Nat, v = .pointer (some ⟨b, 0, none⟩) ∧ Blk wr2 b 123 [.int .i64 f, .int .i64 za, .int .i64 zb] ∧ Below wr.heap.size wr wr2)
      case first =>
        have hSd : (∀ b o, b < wr.heap.size → wr.drew.cell? ⟨b, o, none⟩ = wr.cell? ⟨b, o, none⟩) ∧ Below wr.heap.size wr wr.drew := kp (Below.refl _ _).drew
        refine wp_region_held (S := fun w' => (∀ b o, b < wr.heap.size → w'.cell? ⟨b, o, none⟩ = wr.cell? ⟨b, o, none⟩) ∧ Below wr.heap.size wr w') (by kernel_rfl) ?_
        change wpAnyH _ _ _ _ _ _ _ _ wr.drew
        refine wpAnyH_take (i := 0) (v := ?_) rfl (by kernel_rfl) (by kernel_rfl) (by kernel_rfl) (fun _ _ _ h => h) (Or.inl ⟨by kernel_rfl, ?_⟩) (by assumption) ?_
        rotate_left 1
        · (intro w hSw; obtain ⟨hk1, hk2⟩ := hSw; go_simp <;> with_reducible rfl)
        simp only [Act.put, List.getElem_toArray, List.getElem_cons_zero, List.setIfInBounds_toArray, List.set_cons_zero, List.set_cons_succ]
        refine wpAnyH_take (i := 1) (v := ?_) rfl (by kernel_rfl) (by kernel_rfl) (by kernel_rfl) (fun _ _ _ h => h) (Or.inl ⟨by kernel_rfl, ?_⟩) (by assumption) ?_
        rotate_left 1
        · (intro w hSw; obtain ⟨hk1, hk2⟩ := hSw; go_simp <;> with_reducible rfl)
        simp only [Act.put, List.getElem_toArray, List.getElem_cons_zero, List.getElem_cons_succ, List.setIfInBounds_toArray, List.set_cons_zero, List.set_cons_succ]
        refine wpAnyH_take (i := 2) (v := ?_) rfl (by kernel_rfl) (by kernel_rfl) (by kernel_rfl) (fun _ _ _ h => h) (Or.inl ⟨by kernel_rfl, ?_⟩) (by assumption) ?_
        rotate_left 1
        · (intro w hSw; obtain ⟨hk1, hk2⟩ := hSw; go_simp <;> with_reducible rfl)
        simp only [Act.put, List.getElem_toArray, List.getElem_cons_zero, List.getElem_cons_succ, List.setIfInBounds_toArray, List.set_cons_zero, List.set_cons_succ]
        refine nextH2 (i := 3) (j := 5) (by kernel_rfl) rfl rfl (fun K hK => ?_) (fun K hK => ?_)
        · go_simp
          refine (HR.out _).mono ?_
          rintro e_ w1 ⟨rfl, hbx⟩
          have hS' := kp (bel_tr hSd.2 hSd.2.size hbx)
          try dsimp only
          refine hK _ _ hS' ?_
          clear hK K hSd hbx
          have hSd := hS'
          clear hS'
          refine wpAnyH_take (i := 4) (v := ?_) rfl (by kernel_rfl) (by kernel_rfl) (by kernel_rfl) (fun _ _ _ h => h) (Or.inl ⟨by kernel_rfl, ?_⟩) (by assumption) ?_
          rotate_left 1
          · (intro w hSw; obtain ⟨hk1, hk2⟩ := hSw; go_simp <;> with_reducible rfl)
          simp only [Act.put, List.getElem_toArray, List.getElem_cons_zero, List.getElem_cons_succ, List.setIfInBounds_toArray, List.set_cons_zero, List.set_cons_succ]
          refine nextH (i := 5) (by kernel_rfl) rfl (fun K hK => ?_)
          go_simp
          have hS6 := kp (bel_alloc hSd.2 hSd.2.size (.cells #[.int .i64 0, .int .i64 0, .int .i64 0] 123))
          have hBl := Blk.new w1 123 [.int .i64 0, .int .i64 0, .int .i64 0]
          refine hK _ _ hS6 ?_
          clear hK K
          obtain ⟨v, hv⟩ : ∃ v, w1.heap.size = v := ⟨_, rfl⟩
          obtain ⟨wx, hwx⟩ : ∃ wx, w1.alloc (.cells #[.int .i64 0, .int .i64 0, .int .i64 0] 123) = wx := ⟨_, rfl⟩
          have hvr : wr.heap.size ≤ v := by rw [← hv]; exact hSd.2.size
          rw [hwx, hv] at hBl
          rw [hwx] at hS6 ⊢
          try rw [hv]
          have hbx := hS6.2
          clear hwx hS6 hSd hv
          obtain ⟨x0, x1, x2⟩ : wx.cell? ⟨v, 0, none⟩ = some (.int .i64 0) ∧ wx.cell? ⟨v, 1, none⟩ = some (.int .i64 0) ∧ wx.cell? ⟨v, 2, none⟩ = some (.int .i64 0) := ⟨hBl.cell 0, hBl.cell 1, hBl.cell 2⟩
          obtain ⟨f0, f1, f2⟩ : wx.frozen? ⟨v, 0, none⟩ = false ∧ wx.frozen? ⟨v, 1, none⟩ = false ∧ wx.frozen? ⟨v, 2, none⟩ = false := ⟨hBl.frozen 0, hBl.frozen 1, hBl.frozen 2⟩
          refine nextH (i := 6) (by kernel_rfl) rfl (fun K hK => ?_)
          go_simp
          obtain ⟨WE, hWE⟩ : ∃ WE, ((wx.setCell ⟨v, 0, none⟩ (.int .i64 f)).setCell ⟨v, 1, none⟩ (.int .i64 za)).setCell ⟨v, 2, none⟩ (.int .i64 zb) = WE := ⟨_, rfl⟩
          rw [hWE]
          have hE : Blk WE v 123 [.int .i64 f, .int .i64 za, .int .i64 zb] := by rw [← hWE]; exact ((hBl.set_ 0 _).set_ 1 _).set_ 2 _
          have hbE : Below wr.heap.size wr WE := by rw [← hWE]; exact ((hbx.setCell hvr _).setCell hvr _).setCell hvr _
          clear hWE x0 x1 x2 f0 f1 f2 hBl
          refine hK _ _ (kp hbE) ?_
          clear hK K
          refine wpAnyH_done (by kernel_rfl) ?_ _
          go_wp2
          go_meet
          exact ⟨v, rfl, hE, hbE⟩
        · go_simp
          have hB6 : Below wr.heap.size wr (wr.alloc (.cells #[.int .i64 0, .int .i64 0, .int .i64 0] 123)).drew := (alloc_bel wr _).drew
          have hBl0 : Blk (wr.alloc (.cells #[.int .i64 0, .int .i64 0, .int .i64 0] 123)).drew wr.heap.size 123 [.int .i64 0, .int .i64 0, .int .i64 0] := Blk.new wr _ [_, _, _]
          refine hK _ _ (kp hB6) ?_
          clear hK K hSd
          have hSd := kp hB6
          have hvr : wr.heap.size ≤ wr.heap.size := Nat.le_refl _
          refine nextH (i := 3) (by kernel_rfl) rfl (fun K hK => ?_)
          go_simp
          refine (HR.out _).mono ?_
          rintro e_ wx ⟨rfl, hbx⟩
          have hBl := hBl0.bel hbx
          have hS' := kp (bel_tr hSd.2 hSd.2.size hbx)
          try dsimp only
          refine hK _ _ hS' ?_
          clear hK K hSd hbx hBl0
          have hSd := hS'
          clear hS'
          refine wpAnyH_take (i := 4) (v := ?_) rfl (by kernel_rfl) (by kernel_rfl) (by kernel_rfl) (fun _ _ _ h => h) (Or.inl ⟨by kernel_rfl, ?_⟩) (by assumption) ?_
          rotate_left 1
          · (intro w hSw; obtain ⟨hk1, hk2⟩ := hSw; go_simp <;> with_reducible rfl)
          simp only [Act.put, List.getElem_toArray, List.getElem_cons_zero, List.getElem_cons_succ, List.setIfInBounds_toArray, List.set_cons_zero, List.set_cons_succ]
          have hbx := hSd.2
          obtain ⟨x0, x1, x2⟩ : wx.cell? ⟨wr.heap.size, 0, none⟩ = some (.int .i64 0) ∧ wx.cell? ⟨wr.heap.size, 1, none⟩ = some (.int .i64 0) ∧ wx.cell? ⟨wr.heap.size, 2, none⟩ = some (.int .i64 0) := ⟨hBl.cell 0, hBl.cell 1, hBl.cell 2⟩
          obtain ⟨f0, f1, f2⟩ : wx.frozen? ⟨wr.heap.size, 0, none⟩ = false ∧ wx.frozen? ⟨wr.heap.size, 1, none⟩ = false ∧ wx.frozen? ⟨wr.heap.size, 2, none⟩ = false := ⟨hBl.frozen 0, hBl.frozen 1, hBl.frozen 2⟩
          refine nextH (i := 6) (by kernel_rfl) rfl (fun K hK => ?_)
          go_simp
          obtain ⟨WE, hWE⟩ : ∃ WE, ((wx.setCell ⟨wr.heap.size, 0, none⟩ (.int .i64 f)).setCell ⟨wr.heap.size, 1, none⟩ (.int .i64 za)).setCell ⟨wr.heap.size, 2, none⟩ (.int .i64 zb) = WE := ⟨_, rfl⟩
          rw [hWE]
          have hE : Blk WE wr.heap.size 123 [.int .i64 f, .int .i64 za, .int .i64 zb] := by rw [← hWE]; exact ((hBl.set_ 0 _).set_ 1 _).set_ 2 _
          have hbE : Below wr.heap.size wr WE := by rw [← hWE]; exact ((hbx.setCell hvr _).setCell hvr _).setCell hvr _
          clear hWE x0 x1 x2 f0 f1 f2 hBl
          refine hK _ _ (kp hbE) ?_
          clear hK K
          refine wpAnyH_done (by kernel_rfl) ?_ _
          go_wp2
          go_meet
          exact ⟨wr.heap.size, rfl, hE, hbE⟩
      obtain ⟨b, rfl, kb, hbb⟩ := hcut
      have c1 := b1.bel hbb
      have c2 := b2.bel hbb
      have c3 := b3.bel hbb
      have hjc := HJ.out _ _ _ hj hbb
      have zc : q ≤ wc.heap.size := by have := hbb.size; omega
      clear b1 b2 b3 hj g1 g2 z1 z2 z3 HR hbb hqs
      obtain ⟨x0, x1, x2⟩ : wc.cell? ⟨b, 0, none⟩ = some (.int .i64 f) ∧ wc.cell? ⟨b, 1, none⟩ = some (.int .i64 za) ∧ wc.cell? ⟨b, 2, none⟩ = some (.int .i64 zb) := ⟨kb.cell 0, kb.cell 1, kb.cell 2⟩
      obtain ⟨y0, y1⟩ : wc.cell? ⟨p3, 0, none⟩ = some (.int .i64 H) ∧ wc.cell? ⟨p3, 1, none⟩ = some (.slice A L c) := ⟨c3.cell 0, c3.cell 1⟩
      go_wp2
      gi_wp2
      obtain ⟨fn, tmps, assign, body, hy, hR⟩ := HY.out _ k _ wc #[.int .i64 (k : Int), .agg #[.int .i64 H, .slice A L c, .int .i64 f, .int .i64 za, .int .i64 zb]] hX.out hjc (HV.out _) (by omega)
      rw [hy, Oper.uponIn_round]
      refine ⟨fun h => (by cases h), ?_⟩
      refine hR.mono ?_
      rintro e W6 ⟨rfl, hJ6, hk6, hc6⟩
      have d1 : Blk W6 p1 3 [.int .i64 (M : Int)] := (hk6.block p1 hS1).trans c1
      have d2 : Blk W6 p2 3 [.int .i64 f] := (hk6.block p2 hS2).trans c2
      have d3 : Blk W6 p3 24 [.int .i64 H, .slice A L c] := (hk6.block p3 hS3).trans c3
      have zd : q ≤ W6.heap.size := by have := hk6.size; omega
      rw [← hT.out] at hJ6
      clear hy hR hk6 hc6 x0 x1 x2 y0 y1 c1 c2 c3 hjc hX hT HV kb
      gi_wp2
      first
        | exact ⟨⟨k + 1, by omega, by go_num, zd, d1, d2, d3, hJ6⟩, by simp [intOf]; omega⟩
        | (refine ⟨fun f h => (by cases h), ?_⟩
           gi_wp2
           go_roundw
           case rel => exact ⟨k + 1, by omega, by go_num, zd, d1, d2, d3, hJ6⟩
           case measure => simp [intOf]; omega)
    · obtain rfl : k = M := by omega
      have g1 := b1.cell 0
      simp only [List.getElem?_cons_zero] at g1
      gi_wp2
      go_end0
      exact ⟨⟨_, rfl⟩, hj⟩
end Go.Proofs.Ytkcjiejdjdcbeaa
