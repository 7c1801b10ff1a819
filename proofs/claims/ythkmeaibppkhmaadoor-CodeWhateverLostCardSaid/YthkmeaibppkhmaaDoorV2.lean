/- Contracts: the level of a line at a lag, and the answer (the program's and the reference's). -/
import Derived.Test.YthkmeaibppkhmaaDoorV1
import Derived.Test.YthkmeaibppkhmaaDoorKp
import Derived.Outline
namespace Go.Proofs.YthkmeaibppkhmaaDoor
open Go.RowKit
set_option maxRecDepth 100000

/-- The level at a lag, and the answer. -/
def lvLo (vals : List (Int × Int)) (miss : List Int) (k : Nat) (b : Int) : Int := loS (vals.getD k (0, 0)).1 (miss.getD k 0 * b) + loS (vals.getD k (0, 0)).2 (miss.getD k 0 * b)
def lvHi (vals : List (Int × Int)) (miss : List Int) (k : Nat) (b : Int) : Int := hiS (vals.getD k (0, 0)).1 (miss.getD k 0 * b) + hiS (vals.getD k (0, 0)).2 (miss.getD k 0 * b)
def ansN (vals : List (Int × Int)) (miss : List Int) (k : Nat) (b t : Int) : Int := if t * t ≤ lvLo vals miss k b then 2 else if lvHi vals miss k b < t * t then 0 else 1

theorem mul_bd {m b : Int} (h1 : 0 ≤ m) (h2 : m ≤ 64) (h3 : 0 ≤ b) (h4 : b ≤ 2000000) : 0 ≤ m * b ∧ m * b ≤ 128000000 := by
  refine ⟨Int.mul_nonneg h1 h3, ?_⟩
  have := Int.mul_le_mul h2 h4 h3 (by omega)
  omega
theorem loS_bd {n d : Int} (h1 : -1000000000 ≤ n) (h2 : n ≤ 1000000000) (h3 : 0 ≤ d) (_h4 : d ≤ 128000000) : 0 ≤ loS n d ∧ loS n d ≤ 1000000000 * 1000000000 := by
  have b1 := szI_le (m := 1000000000) h1 h2
  have b2 := leI_bd (n := n) h3
  exact sqv_bd (by omega) (by omega)
theorem hiS_bd {n d : Int} (h1 : -1000000000 ≤ n) (h2 : n ≤ 1000000000) (h3 : 0 ≤ d) (h4 : d ≤ 128000000) : 0 ≤ hiS n d ∧ hiS n d ≤ 1128000000 * 1128000000 := by
  have b1 := szI_le (m := 1000000000) h1 h2
  have b0 := szI_nonneg n
  exact sqv_bd (by omega) (by omega)

/-- What is asked of a line at a lag. -/
def okAt (vals : List (Int × Int)) (miss : List Int) (k : Nat) : Prop := k < vals.length ∧ k < miss.length ∧ (-1000000000 ≤ (vals.getD k (0, 0)).1 ∧ (vals.getD k (0, 0)).1 ≤ 1000000000 ∧ -1000000000 ≤ (vals.getD k (0, 0)).2 ∧ (vals.getD k (0, 0)).2 ≤ 1000000000) ∧ 0 ≤ miss.getD k 0 ∧ miss.getD k 0 ≤ 64
set_option maxHeartbeats 1000000 in
theorem level_c (V M : Option Addr) (q1 q2 : Nat) (vals : List (Int × Int)) (miss : List Int) (k : Nat) (b : Int) (w : World) (hs : Rd w V (gs vals)) (hr : Rd w M (ints miss)) (hok : okAt vals miss k) (hb1 : 0 ≤ b) (hb2 : b ≤ 2000000) :
    Calls Tryd.prog 123 #[.agg #[.slice V vals.length q1, .slice M miss.length q2], .int .i64 k, .int .i64 b] w fun r w' => r = .returned (.agg #[.int .i64 (lvLo vals miss k b), .int .i64 (lvHi vals miss k b)]) ∧ Below w.heap.size w w' := by
  obtain ⟨hkv, hkm, ⟨g1, g2, g3, g4⟩, g5, g6⟩ := hok
  have hmb := mul_bd g5 g6 hb1 hb2
  have hl1 := loS_bd g1 g2 hmb.1 hmb.2
  have hl2 := loS_bd g3 g4 hmb.1 hmb.2
  have hh1 := hiS_bd g1 g2 hmb.1 hmb.2
  have hh2 := hiS_bd g3 g4 hmb.1 hmb.2
  have eg : vals.getD k (0, 0) = vals[k] := by simp [List.getD, hkv]
  have em : miss.getD k 0 = miss[k] := by simp [List.getD, hkm]
  have hLo : Hid (lvLo vals miss k b = loS (vals.getD k (0, 0)).1 (miss.getD k 0 * b) + loS (vals.getD k (0, 0)).2 (miss.getD k 0 * b)) := rfl
  have hHi : Hid (lvHi vals miss k b = hiS (vals.getD k (0, 0)).1 (miss.getD k 0 * b) + hiS (vals.getD k (0, 0)).2 (miss.getD k 0 * b)) := rfl
  have ix0 : (0 : Int) ≤ (k : Int) := by omega
  have ix1 : (k : Int) < (vals.length : Int) := by omega
  have ix2 : (k : Int) < (miss.length : Int) := by omega
  have HS1 := hide (fun W => squaresAround_c (vals.getD k (0, 0)).1 (miss.getD k 0 * b) W g1 g2 hmb.1 hmb.2)
  have HS2 := hide (fun W => squaresAround_c (vals.getD k (0, 0)).2 (miss.getD k 0 * b) W g3 g4 hmb.1 hmb.2)
  generalize loS (vals.getD k (0, 0)).1 (miss.getD k 0 * b) = l1 at HS1 hLo hl1
  generalize loS (vals.getD k (0, 0)).2 (miss.getD k 0 * b) = l2 at HS2 hLo hl2
  generalize hiS (vals.getD k (0, 0)).1 (miss.getD k 0 * b) = u1 at HS1 hHi hh1
  generalize hiS (vals.getD k (0, 0)).2 (miss.getD k 0 * b) = u2 at HS2 hHi hh2
  rw [eg] at HS1 HS2
  rw [em] at HS1 HS2 hmb
  obtain ⟨bV, oV, rfl, hbV, z0, z1⟩ := hs.g_at hkv
  obtain ⟨bM, oM, rfl, hbM, z2⟩ := hr.int_at hkm
  clear eg em g1 g2 g3 g4 g5 g6
  generalize vals[k] = g at z0 z1 HS1 HS2
  generalize miss[k] = m at z2 HS1 HS2 hmb
  obtain ⟨x, y⟩ := g
  dsimp only at z0 z1 HS1 HS2
  have hA := alloc_bel w (.cells #[.slice (some ⟨bV, oV, none⟩) vals.length q1, .slice (some ⟨bM, oM, none⟩) miss.length q2] 89)
  obtain ⟨W, hW⟩ : ∃ W, (w.alloc (.cells #[.slice (some ⟨bV, oV, none⟩) vals.length q1, .slice (some ⟨bM, oM, none⟩) miss.length q2] 89)).alloc (.cells #[.int .i64 0, .int .i64 0] 107) = W := ⟨_, rfl⟩
  have hwW : Below w.heap.size w W := by rw [← hW]; exact (alloc_bel _ _).alloc (by simp) _
  have hX : Blk W w.heap.size 89 [.slice (some ⟨bV, oV, none⟩) vals.length q1, .slice (some ⟨bM, oM, none⟩) miss.length q2] := by rw [← hW]; exact (Blk.new w _ [_, _]).bel (alloc_bel _ _)
  have hR : Blk W (w.heap.size + 1) 107 [.int .i64 0, .int .i64 0] := by rw [← hW]; exact Blk.two w 89 107 [.slice (some ⟨bV, oV, none⟩) vals.length q1, .slice (some ⟨bM, oM, none⟩) miss.length q2] [.int .i64 0, .int .i64 0]
  have z0 := (hwW.cell (p := ⟨bV, _, none⟩) hbV).trans z0
  have z1 := (hwW.cell (p := ⟨bV, _, none⟩) hbV).trans z1
  have z2 := (hwW.cell (p := ⟨bM, _, none⟩) hbM).trans z2
  have hbV : bV < W.heap.size := Nat.lt_of_lt_of_le hbV hwW.size
  have hbM : bM < W.heap.size := Nat.lt_of_lt_of_le hbM hwW.size
  clear hA hs hr
  have hxl := hX.lt
  have hrl := hR.lt
  have HR := hide hR
  have c0 := hX.cell 0; have c1 := hX.cell 1; simp only [List.getElem?_cons_zero, List.getElem?_cons_succ] at c0 c1
  clear hX hR
  go_enter Tryd.func123, Tryd.ntmps123
  go_upto_region 1 with fail
  clear hW
  obtain ⟨p, hp⟩ : ∃ p, w.heap.size + 1 = p := ⟨_, rfl⟩
  rw [hp] at HR hrl ⊢
  go_upto_region 2 with fail
  generalize m * b = mb at HS1 HS2 hmb ⊢
  go_upto_region 4 with (first
    | (go_at_call 147; have _g := hB1; refine (HS2.out _).mono ?_; rintro e w2 ⟨rfl, hb2⟩; have hB2 := bel_tr hB1a hB1a.size hb2; have k2 := (kp hB2).1; have hY := hL1.bel hb2)
    | (go_at_call 147; refine (HS1.out _).mono ?_; rintro e w1 ⟨rfl, hB1⟩; have hL1 := Blk.new w1 107 [.int .i64 l1, .int .i64 u1]; have hB1a := bel_alloc hB1 hB1.size (.cells #[.int .i64 l1, .int .i64 u1] 107); have k1 := (kp hB1).1; have s1 := hB1.size; have s0 : w.heap.size < w1.heap.size := (by omega); have s2 : bV < w1.heap.size := (by omega)))
  obtain ⟨w3, hw3⟩ : ∃ w3, w2.alloc (.cells #[.int .i64 l2, .int .i64 u2] 107) = w3 := ⟨_, rfl⟩
  have hZ : Blk w3 w2.heap.size 107 [.int .i64 l2, .int .i64 u2] := by rw [← hw3]; exact Blk.new w2 _ [_, _]
  have hY3 : Blk w3 w1.heap.size 107 [.int .i64 l1, .int .i64 u1] := by rw [← hw3]; exact hY.bel (alloc_bel _ _)
  have hB3 : Below W.heap.size W w3 := by rw [← hw3]; exact bel_alloc hB2 hB2.size _
  have hR3 := HR.out.below hB3 hrl
  rw [hw3]
  clear hw3 hY k1 k2
  have z0 := hZ.cell 0; have z1 := hZ.cell 1; simp only [List.getElem?_cons_zero, List.getElem?_cons_succ] at z0 z1
  have y0 := hY3.cell 0; have y1 := hY3.cell 1; simp only [List.getElem?_cons_zero, List.getElem?_cons_succ] at y0 y1
  have r0 := hR3.cell 0; have r1 := hR3.cell 1; simp only [List.getElem?_cons_zero, List.getElem?_cons_succ] at r0 r1
  have f0 := hR3.frozen 0
  have f1 := hR3.frozen 1
  go_wp2
  obtain ⟨WE, hWE⟩ : ∃ WE, (w3.setCell ⟨p, 0, none⟩ (.int .i64 (l1 + l2))).setCell ⟨p, 1, none⟩ (.int .i64 (u1 + u2)) = WE := ⟨_, rfl⟩
  rw [hWE]
  have hE : Blk WE p 107 [.int .i64 (l1 + l2), .int .i64 (u1 + u2)] := by rw [← hWE]; exact (hR3.set_ 0 _).set_ 1 _
  have hBE : Below w.heap.size w WE := by
    have h := bel_tr hwW hwW.size hB3
    rw [← hWE]
    exact (h.setCell (by show w.heap.size ≤ p; omega) _).setCell (by show w.heap.size ≤ p; omega) _
  have e0 := hE.cell 0
  have e1 := hE.cell 1
  simp only [List.getElem?_cons_zero, List.getElem?_cons_succ] at e0 e1
  clear hWE
  refine bodyPost_ret (by simp [results, Tryd.results123, go_sem, e0, e1]; try rfl) rfl ?_
  exact ⟨by rw [hLo.out, hHi.out], hBE⟩
end Go.Proofs.YthkmeaibppkhmaaDoor
