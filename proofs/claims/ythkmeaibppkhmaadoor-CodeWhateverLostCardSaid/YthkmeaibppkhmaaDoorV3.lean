/- Contracts: the level and the answer as the reference has them; the answer of the program. -/
import Derived.Test.YthkmeaibppkhmaaDoorV2
namespace Go.Proofs.YthkmeaibppkhmaaDoor
open Go.RowKit
set_option maxRecDepth 100000

set_option maxHeartbeats 40000000 in
theorem refLevel_c (V M : Option Addr) (q1 q2 : Nat) (vals : List (Int × Int)) (miss : List Int) (k : Nat) (b : Int) (w : World) (hs : Rd w V (gs vals)) (hr : Rd w M (ints miss)) (hok : okAt vals miss k) (hb1 : 0 ≤ b) (hb2 : b ≤ 2000000) :
    Calls Tryd.prog 77 #[.agg #[.slice V vals.length q1, .slice M miss.length q2], .int .i64 k, .int .i64 b] w fun r w' => r = .returned (.agg #[.int .i64 (lvLo vals miss k b), .int .i64 (lvHi vals miss k b)]) ∧ Below w.heap.size w w' := by
  obtain ⟨hkv, hkm, ⟨g1, g2, g3, g4⟩, g5, g6⟩ := hok
  have hmb := mul_bd g5 g6 hb1 hb2
  have hl1 := loS_bd g1 g2 hmb.1 hmb.2
  have hl2 := loS_bd g3 g4 hmb.1 hmb.2
  have hh1 := hiS_bd g1 g2 hmb.1 hmb.2
  have hh2 := hiS_bd g3 g4 hmb.1 hmb.2
  have eg : vals.getD k (0, 0) = vals[k] := by simp [List.getD, hkv]
  have em : miss.getD k 0 = miss[k] := by simp [List.getD, hkm]
  have hLo : Hid (lvLo vals miss k b = loS (vals.getD k (0, 0)).1 (miss.getD k 0 * b) + loS (vals.getD k (0, 0)).2 (miss.getD k 0 * b)) := rfl
  have hHi : Hid (lvHi vals miss k b = hiS (vals.getD k (0, 0)).1 (miss.getD k 0 * b) + hiS (vals.getD k (0, 0)).2 (miss.getD k 0 * b)) := rfl
  have ix0 : (0 : Int) ≤ (k : Int) := by omega
  have ix1 : (k : Int) < (vals.length : Int) := by omega
  have ix2 : (k : Int) < (miss.length : Int) := by omega
  have HS1 := hide (fun W => squares_c ((vals.getD k (0, 0)).1 - miss.getD k 0 * b) ((vals.getD k (0, 0)).1 + miss.getD k 0 * b) W (by omega) (by omega) (by omega))
  have HS2 := hide (fun W => squares_c ((vals.getD k (0, 0)).2 - miss.getD k 0 * b) ((vals.getD k (0, 0)).2 + miss.getD k 0 * b) W (by omega) (by omega) (by omega))
  rw [loR_eq _ _ hmb.1, hiR_eq _ _ hmb.1] at HS1 HS2
  generalize loS (vals.getD k (0, 0)).1 (miss.getD k 0 * b) = l1 at HS1 hLo hl1
  generalize loS (vals.getD k (0, 0)).2 (miss.getD k 0 * b) = l2 at HS2 hLo hl2
  generalize hiS (vals.getD k (0, 0)).1 (miss.getD k 0 * b) = u1 at HS1 hHi hh1
  generalize hiS (vals.getD k (0, 0)).2 (miss.getD k 0 * b) = u2 at HS2 hHi hh2
  rw [eg] at HS1 HS2 g1 g2 g3 g4
  rw [em] at HS1 HS2 hmb
  obtain ⟨bV, oV, rfl, hbV, z0, z1⟩ := hs.g_at hkv
  obtain ⟨bM, oM, rfl, hbM, z2⟩ := hr.int_at hkm
  clear eg em g5 g6
  generalize vals[k] = g at z0 z1 HS1 HS2 g1 g2 g3 g4
  generalize miss[k] = m at z2 HS1 HS2 hmb
  obtain ⟨x, y⟩ := g
  dsimp only at z0 z1 HS1 HS2 g1 g2 g3 g4
  go_enter Tryd.func77, Tryd.ntmps77
  go_upto_region 1 with fail
  obtain ⟨W, hW⟩ : ∃ W, (w.alloc (.cells #[.slice (some ⟨bV, oV, none⟩) vals.length q1, .slice (some ⟨bM, oM, none⟩) miss.length q2] 89)).alloc (.cells #[.int .i64 0, .int .i64 0] 107) = W := ⟨_, rfl⟩
  have hwW : Below w.heap.size w W := by rw [← hW]; exact (alloc_bel _ _).alloc (by simp) _
  have hX : Blk W w.heap.size 89 [.slice (some ⟨bV, oV, none⟩) vals.length q1, .slice (some ⟨bM, oM, none⟩) miss.length q2] := by rw [← hW]; exact (Blk.new w _ [_, _]).bel (alloc_bel _ _)
  have hR : Blk W (w.heap.size + 1) 107 [.int .i64 0, .int .i64 0] := by rw [← hW]; exact Blk.two w 89 107 [.slice (some ⟨bV, oV, none⟩) vals.length q1, .slice (some ⟨bM, oM, none⟩) miss.length q2] [.int .i64 0, .int .i64 0]
  rw [hW]
  clear hW
  have z0 := (hwW.cell (p := ⟨bV, _, none⟩) hbV).trans z0
  have z1 := (hwW.cell (p := ⟨bV, _, none⟩) hbV).trans z1
  have z2 := (hwW.cell (p := ⟨bM, _, none⟩) hbM).trans z2
  have hbV : bV < W.heap.size := Nat.lt_of_lt_of_le hbV hwW.size
  have hbM : bM < W.heap.size := Nat.lt_of_lt_of_le hbM hwW.size
  clear hs hr
  have hxl := hX.lt
  have hrl := hR.lt
  have HR := hide hR
  have c0 := hX.cell 0; have c1 := hX.cell 1; simp only [List.getElem?_cons_zero, List.getElem?_cons_succ] at c0 c1
  clear hX hR
  obtain ⟨p, hp⟩ : ∃ p, w.heap.size + 1 = p := ⟨_, rfl⟩
  rw [hp] at HR hrl ⊢
  have wm : IntKind.i64.wrap (m * b) = m * b := by simp (disch := omega) only [IntWalk.i64_in]
  have hAl : Below W.heap.size W (W.alloc (.cells #[.int .i64 0, .int .i64 0] 76)).drew := (alloc_bel W _).drew
  have hAl2 : Below W.heap.size W (W.alloc (.cells #[.int .i64 x, .int .i64 y] 76)).drew := (alloc_bel W _).drew
  go_region_held3 (fun w' => (∀ b o, b < W.heap.size → w'.cell? ⟨b, o, none⟩ = W.cell? ⟨b, o, none⟩) ∧ Below W.heap.size W w')
    (first | with_reducible exact kp_refl W | with_reducible exact kp hAl | with_reducible exact kp hAl2) (fail)
  have hN : Blk (W.alloc (.cells #[.int .i64 x, .int .i64 y] 76)).drew W.heap.size 76 [.int .i64 x, .int .i64 y] := Blk.new W _ [_, _]
  go_upto_region 2 with fail
  obtain ⟨W2, hW2⟩ : ∃ W2, (W.alloc (.cells #[.int .i64 x, .int .i64 y] 76)).drew = W2 := ⟨_, rfl⟩
  rw [hW2] at hN hAl2 ⊢
  have hg2 := hN.lt
  have hR2 := HR.out.below hAl2 hrl
  clear hW2 hAl c0 c1 z0 z1 z2 wm HR
  obtain ⟨G, hG⟩ : ∃ G, W.heap.size = G := ⟨_, rfl⟩
  rw [hG] at hN hg2 ⊢
  have n0 := hN.cell 0; have n1 := hN.cell 1; simp only [List.getElem?_cons_zero, List.getElem?_cons_succ] at n0 n1
  generalize m * b = mb at HS1 HS2 hmb ⊢
  have wa : IntKind.i64.wrap (x - mb) = x - mb := by simp (disch := omega) only [IntWalk.i64_in]
  have wb : IntKind.i64.wrap (x + mb) = x + mb := by simp (disch := omega) only [IntWalk.i64_in]
  have wc : IntKind.i64.wrap (y - mb) = y - mb := by simp (disch := omega) only [IntWalk.i64_in]
  have wd : IntKind.i64.wrap (y + mb) = y + mb := by simp (disch := omega) only [IntWalk.i64_in]
  have hrl2 := hR2.lt
  have HR2 := hide hR2
  have HB2 := hide hAl2
  clear hN hR2 hAl2 hG
  go_cut [9, 10] from 23 to 40 (fun t9 t10 wx => ∃ g1 g2 : Nat, t9 = .pointer (some ⟨g1, 0, none⟩) ∧ t10 = .pointer (some ⟨g2, 0, none⟩) ∧ (wx.cell? ⟨g1, 0, none⟩ = some (.int .i64 l1) ∧ wx.cell? ⟨g1, 1, none⟩ = some (.int .i64 u1) ∧ wx.cell? ⟨g2, 0, none⟩ = some (.int .i64 l2) ∧ wx.cell? ⟨g2, 1, none⟩ = some (.int .i64 u2)) ∧ Below W2.heap.size W2 wx)
  case first =>
    go_region_held3 (fun w' => (∀ b o, b < W2.heap.size → w'.cell? ⟨b, o, none⟩ = W2.cell? ⟨b, o, none⟩) ∧ Below W2.heap.size W2 w')
      ((refine kp ?_; (repeat' (first | with_reducible exact Below.refl _ _ | with_reducible exact H4.out | with_reducible exact H3.out | with_reducible refine Below.drew ?_ | with_reducible refine bel_alloc ?_ ?_ _ | with_reducible refine Below.setCell ?_ ?_ _)); all_goals (first | omega | (simp <;> omega))))
      (first
        | (go_at_call 127; have _g := H3; refine (HS2.out _).mono ?_; rintro e w4 ⟨rfl, hb4⟩; have H4 : Hid (Below W2.heap.size W2 w4) := (by refine bel_tr ?_ ?_ hb4; (repeat' (first | with_reducible exact Below.refl _ _ | with_reducible exact H4.out | with_reducible exact H3.out | with_reducible refine Below.drew ?_ | with_reducible refine bel_alloc ?_ ?_ _ | with_reducible refine Below.setCell ?_ ?_ _)); all_goals (first | omega | (simp <;> omega))); have k4 := (bcell hb4).1; have q4 := (bcell hb4).2; have s4 := H4.out.size; (try (refine (have B2 : Blk w4 (W2.heap.size) 107 [.int .i64 0, .int .i64 0] := ?_; ?_); (focus ((repeat' (first | with_reducible exact Blk.new _ _ [_, _] | with_reducible exact Blk.two _ _ _ [_, _] [_, _] | with_reducible refine Blk.dr ?_ | with_reducible refine Blk.bel ?_ (alloc_bel _ _) | with_reducible refine Blk.bel ?_ hb4 | with_reducible refine Blk.bel ?_ hb3)); done)); have c20 := B2.cell 0; have c21 := B2.cell 1; simp only [List.getElem?_cons_zero, List.getElem?_cons_succ] at c20 c21; have d20 := B2.frozen 0; have d21 := B2.frozen 1; have l2 := B2.lt; clear B2)); (try (refine (have B3 : Blk w4 (W2.heap.size + 1) 107 [.int .i64 0, .int .i64 0] := ?_; ?_); (focus ((repeat' (first | with_reducible exact Blk.new _ _ [_, _] | with_reducible exact Blk.two _ _ _ [_, _] [_, _] | with_reducible refine Blk.dr ?_ | with_reducible refine Blk.bel ?_ (alloc_bel _ _) | with_reducible refine Blk.bel ?_ hb4 | with_reducible refine Blk.bel ?_ hb3)); done)); have c30 := B3.cell 0; have c31 := B3.cell 1; simp only [List.getElem?_cons_zero, List.getElem?_cons_succ] at c30 c31; have d30 := B3.frozen 0; have d31 := B3.frozen 1; have l3 := B3.lt; clear B3)); (try (refine (have B4 : Blk w4 (w3.heap.size) 107 [.int .i64 0, .int .i64 0] := ?_; ?_); (focus ((repeat' (first | with_reducible exact Blk.new _ _ [_, _] | with_reducible exact Blk.two _ _ _ [_, _] [_, _] | with_reducible refine Blk.dr ?_ | with_reducible refine Blk.bel ?_ (alloc_bel _ _) | with_reducible refine Blk.bel ?_ hb4 | with_reducible refine Blk.bel ?_ hb3)); done)); have c40 := B4.cell 0; have c41 := B4.cell 1; simp only [List.getElem?_cons_zero, List.getElem?_cons_succ] at c40 c41; have d40 := B4.frozen 0; have d41 := B4.frozen 1; have l4 := B4.lt; clear B4)); (try (refine (have B5 : Blk w4 (w3.heap.size + 1) 107 [.int .i64 0, .int .i64 0] := ?_; ?_); (focus ((repeat' (first | with_reducible exact Blk.new _ _ [_, _] | with_reducible exact Blk.two _ _ _ [_, _] [_, _] | with_reducible refine Blk.dr ?_ | with_reducible refine Blk.bel ?_ (alloc_bel _ _) | with_reducible refine Blk.bel ?_ hb4 | with_reducible refine Blk.bel ?_ hb3)); done)); have c50 := B5.cell 0; have c51 := B5.cell 1; simp only [List.getElem?_cons_zero, List.getElem?_cons_succ] at c50 c51; have d50 := B5.frozen 0; have d51 := B5.frozen 1; have l5 := B5.lt; clear B5)); clear k4 q4)
        | (go_at_call 127; refine (HS1.out _).mono ?_; rintro e w3 ⟨rfl, hb3⟩; have H3 : Hid (Below W2.heap.size W2 w3) := (by refine bel_tr ?_ ?_ hb3; (repeat' (first | with_reducible exact Below.refl _ _ | with_reducible exact H4.out | with_reducible exact H3.out | with_reducible refine Below.drew ?_ | with_reducible refine bel_alloc ?_ ?_ _ | with_reducible refine Below.setCell ?_ ?_ _)); all_goals (first | omega | (simp <;> omega))); have k3 := (bcell hb3).1; have q3 := (bcell hb3).2; have s3 := H3.out.size; (try (refine (have B0 : Blk w3 (W2.heap.size) 107 [.int .i64 0, .int .i64 0] := ?_; ?_); (focus ((repeat' (first | with_reducible exact Blk.new _ _ [_, _] | with_reducible exact Blk.two _ _ _ [_, _] [_, _] | with_reducible refine Blk.dr ?_ | with_reducible refine Blk.bel ?_ (alloc_bel _ _) | with_reducible refine Blk.bel ?_ hb4 | with_reducible refine Blk.bel ?_ hb3)); done)); have c00 := B0.cell 0; have c01 := B0.cell 1; simp only [List.getElem?_cons_zero, List.getElem?_cons_succ] at c00 c01; have d00 := B0.frozen 0; have d01 := B0.frozen 1; have l0 := B0.lt; clear B0)); (try (refine (have B1 : Blk w3 (W2.heap.size + 1) 107 [.int .i64 0, .int .i64 0] := ?_; ?_); (focus ((repeat' (first | with_reducible exact Blk.new _ _ [_, _] | with_reducible exact Blk.two _ _ _ [_, _] [_, _] | with_reducible refine Blk.dr ?_ | with_reducible refine Blk.bel ?_ (alloc_bel _ _) | with_reducible refine Blk.bel ?_ hb4 | with_reducible refine Blk.bel ?_ hb3)); done)); have c10 := B1.cell 0; have c11 := B1.cell 1; simp only [List.getElem?_cons_zero, List.getElem?_cons_succ] at c10 c11; have d10 := B1.frozen 0; have d11 := B1.frozen 1; have l1 := B1.lt; clear B1)); clear k3 q3))
    all_goals (go_wp2; go_meet; refine ⟨_, _, rfl, rfl, ⟨?_, ?_, ?_, ?_⟩, ?_⟩)
    all_goals first
      | (go_simp; done)
      | (go_simp <;> rfl)
      | skip
    all_goals try ((repeat' (first | with_reducible exact Below.refl _ _ | with_reducible exact H4.out | with_reducible exact H3.out | with_reducible refine Below.drew ?_ | with_reducible refine bel_alloc ?_ ?_ _ | with_reducible refine Below.setCell ?_ ?_ _)); all_goals (first | omega | (simp <;> omega)))
  obtain ⟨g1, g2, rfl, rfl, ⟨z0, z1, z2, z3⟩, hB3⟩ := hcut
  have hB4 := bel_tr HB2.out HB2.out.size hB3
  have hRf := HR2.out.below hB3 hrl2
  have r0 := hRf.cell 0; have r1 := hRf.cell 1; simp only [List.getElem?_cons_zero, List.getElem?_cons_succ] at r0 r1
  have f0 := hRf.frozen 0
  have f1 := hRf.frozen 1
  go_wp2
  obtain ⟨WE, hWE⟩ : ∃ WE, (wc.setCell ⟨p, 0, none⟩ (.int .i64 (l1 + l2))).setCell ⟨p, 1, none⟩ (.int .i64 (u1 + u2)) = WE := ⟨_, rfl⟩
  rw [hWE]
  have hE : Blk WE p 107 [.int .i64 (l1 + l2), .int .i64 (u1 + u2)] := by rw [← hWE]; exact hRf.set2 _ _
  have hBE : Below w.heap.size w WE := by
    have h := bel_tr hwW hwW.size hB4
    rw [← hWE]
    exact (h.setCell (by show w.heap.size ≤ p; omega) _).setCell (by show w.heap.size ≤ p; omega) _
  have e0 := hE.cell 0
  have e1 := hE.cell 1
  simp only [List.getElem?_cons_zero, List.getElem?_cons_succ] at e0 e1
  clear hWE
  refine bodyPost_ret (by simp [results, Tryd.results77, go_sem, e0, e1]; try rfl) rfl ?_
  exact ⟨by rw [hLo.out, hHi.out], hBE⟩
end Go.Proofs.YthkmeaibppkhmaaDoor
