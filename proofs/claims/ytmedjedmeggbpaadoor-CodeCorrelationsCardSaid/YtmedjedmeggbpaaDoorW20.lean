/- Contracts: lists of lists compared; the frame of the examples. -/
import Derived.Test.YtmedjedmeggbpaaDoorW19
import Derived.Test.YtmedjedmeggbpaaDoorW5
import Derived.Test.YtmedjedmeggbpaaDoorW2
namespace Go.Proofs.YtmedjedmeggbpaaDoor
open Go.RowKit
set_option maxRecDepth 100000

theorem Lists.get {w : World} : ∀ {vs : List Value} {ll : List (List Int)}, Lists w vs ll → ∀ (k : Nat) (h : k < vs.length) (h' : k < ll.length), ∃ A c, vs[k] = .slice A (ll[k]).length c ∧ RdT w 3 A (ints ll[k])
  | _ :: _, _ :: _, ⟨h, _⟩, 0, _, _ => h
  | _ :: _, _ :: _, ⟨_, h⟩, k + 1, h1, h2 => Lists.get h k (by simpa using h1) (by simpa using h2)
  | [], _, _, _, h, _ => absurd h (Nat.not_lt_zero _)
  | _ :: _, [], h, _, _, _ => h.elim

section
variable {w wx w1 : World} {n : Nat} {p0 p1 : Addr} {v0 v1 : Value}
theorem hold2_bel (h : wx.cell? p0 = some v0 ∧ wx.cell? p1 = some v1 ∧ Below n w wx) (hb : Below wx.heap.size wx w1) (hB : n ≤ wx.heap.size) : w1.cell? p0 = some v0 ∧ w1.cell? p1 = some v1 ∧ Below n w w1 := by
  obtain ⟨h0, h1, h2⟩ := h
  exact ⟨(hb.cell (World.block_lt_of_cell? _ _ h0)).trans h0, (hb.cell (World.block_lt_of_cell? _ _ h1)).trans h1, h2.trans (hb.mono hB)⟩
theorem hold2_drew (h : wx.cell? p0 = some v0 ∧ wx.cell? p1 = some v1 ∧ Below n w wx) : wx.drew.cell? p0 = some v0 ∧ wx.drew.cell? p1 = some v1 ∧ Below n w wx.drew := ⟨h.1, h.2.1, h.2.2.drew⟩
end

theorem lists_c (vs ws : List Value) (ll mm : List (List Int)) (A B : Option Addr) (c d : Nat) (w : World) (hr : Rd w A vs) (hs : Rd w B ws) (hL : Lists w vs ll) (hM : Lists w ws mm) (hl : vs.length ≤ 1100) (_hl2 : ws.length ≤ 1100) (hi : ∀ l ∈ ll, l.length ≤ 1000) :
    Calls Tryd.prog 32 #[.slice A vs.length c, .slice B ws.length d] w fun r w' => r = .returned (.bool (decide (ll = mm))) ∧ Below w.heap.size w w' := by
  have el : vs.length = ll.length := hL.length
  have em : ws.length = mm.length := hM.length
  by_cases hn : ll.length = mm.length
  · have e1 : ((vs.length : Int) != (ws.length : Int)) = false := by simp; omega
    have EL := hide el
    have EM := hide em
    have HN := hide hn
    have HL := hide hL
    have HM := hide hM
    have HI := hide hi
    clear hn hL hM hi el em
    go_enter Tryd.func32, Tryd.ntmps32
    go_wp2
    go_loopw [5] (fun i wr => ∃ k : Nat, k ≤ vs.length ∧ i = .int .i64 k ∧ Below w.heap.size w wr ∧ Hid (∀ j (h : j < ll.length) (h' : j < mm.length), j < k → ll[j] = mm[j])) (fun i _ => vs.length - (intOf i).toNat)
    case atStart => exact ⟨0, Nat.zero_le _, rfl, Below.refl _ _, fun _ _ _ h => by omega⟩
    case round =>
      obtain ⟨k, hk, rfl, hb, h0⟩ := hrel
      by_cases hlt : k < vs.length
      · have hlt' : k < ws.length := by have := HN.out; have := EL.out; have := EM.out; omega
        have hk1 : k < ll.length := by have := EL.out; omega
        have hk2 : k < mm.length := by have := EM.out; omega
        obtain ⟨A1, c1, hv1, hA1⟩ := Lists.get HL.out k hlt hk1
        obtain ⟨B1, d1, hw1, hB1⟩ := Lists.get HM.out k hlt' hk2
        obtain ⟨b, off, rfl, hblt, hc0⟩ := (hr.bel hb) (by intro e; rw [e] at hlt; simp at hlt)
        obtain ⟨b', off', rfl, hblt', hc0'⟩ := (hs.bel hb) (by intro e; rw [e] at hlt'; simp at hlt')
        have z1 := hc0 k vs[k] (List.getElem?_eq_getElem hlt)
        have z2 := hc0' k ws[k] (List.getElem?_eq_getElem hlt')
        rw [hv1] at z1
        rw [hw1] at z2
        have hli := HI.out _ (List.getElem_mem hk1)
        have HC : Hid (Calls Tryd.prog 31 #[.slice A1 (ll[k]).length c1, .slice B1 (mm[k]).length d1] wr.drew fun r w' => r = .returned (.bool (decide (ll[k] = mm[k]))) ∧ Below wr.drew.heap.size wr.drew w') :=
          ints_c ll[k] mm[k] A1 B1 c1 d1 wr.drew ((hA1.bel hb).1.bel (Below.refl _ _).drew) ((hB1.bel hb).1.bel (Below.refl _ _).drew) hli
        have HS : Hid (wr.cell? ⟨b, off + k, none⟩ = some (.slice A1 (ll[k]).length c1) ∧ wr.cell? ⟨b', off' + k, none⟩ = some (.slice B1 (mm[k]).length d1) ∧ Below w.heap.size w wr) := ⟨z1, z2, hb⟩
        have hz0 : w.heap.size ≤ wr.drew.heap.size := hb.size
        have HZ : Hid (ll[k] = mm[k] → ∀ j (h : j < ll.length) (h' : j < mm.length), j < k + 1 → ll[j] = mm[j]) := fun hz j h h' hj => by
          by_cases e : j = k
          · subst e; exact hz
          · exact h0.out j h h' (by omega)
        have HX : Hid (ll[k] ≠ mm[k] → decide (ll = mm) = false) := fun hz => by simp; rintro rfl; exact hz rfl
        clear hc0 hc0' hv1 hw1 hA1 hB1 hli z1 z2
        have ix0 : (0 : Int) ≤ (k : Int) := by omega
        have ix1 : (k : Int) < (vs.length : Int) := by omega
        have ix2 : (k : Int) < (ws.length : Int) := by omega
        generalize ll[k] = l1 at HC HS HZ HX
        generalize mm[k] = m1 at HC HS HZ HX
        by_cases hz : l1 = m1
        · have e2 : decide (l1 = m1) = true := by simpa using hz
          rw [e2] at HC
          have H1 := hide (HZ.out hz)
          clear hz HZ HX e2
          go_upto_region 6 with fail
          go_region_held3 (fun w' => w'.cell? ⟨b, off + k, none⟩ = some (.slice A1 l1.length c1) ∧ w'.cell? ⟨b', off' + k, none⟩ = some (.slice B1 m1.length d1) ∧ Below w.heap.size w w')
            (first | with_reducible exact hold2_drew HS.out | with_reducible exact H3.out)
            (first | (go_at_call 31; refine HC.out.mono ?_; rintro e w3 ⟨rfl, hb3⟩; have H3 := hide (hold2_bel (hold2_drew HS.out) hb3 hz0)))
          go_wp2
          go_roundw
          case rel => exact ⟨k + 1, by omega, by go_num, H3.out.2.2, H1⟩
          case measure => simp [intOf]; omega
        · have e2 : decide (l1 = m1) = false := by simpa using hz
          rw [e2] at HC
          have H := hide (HX.out hz)
          clear hz HZ HX e2
          go_upto_region 6 with fail
          go_region_held3 (fun w' => w'.cell? ⟨b, off + k, none⟩ = some (.slice A1 l1.length c1) ∧ w'.cell? ⟨b', off' + k, none⟩ = some (.slice B1 m1.length d1) ∧ Below w.heap.size w w')
            (first | with_reducible exact hold2_drew HS.out | with_reducible exact H3.out)
            (first | (go_at_call 31; refine HC.out.mono ?_; rintro e w3 ⟨rfl, hb3⟩; have H3 := hide (hold2_bel (hold2_drew HS.out) hb3 hz0)))
          go_wp2
          go_ret
          exact ⟨by rw [H.out]; rfl, H3.out.2.2⟩
      · have H : Hid (decide (ll = mm) = true) := by
          show decide (ll = mm) = true
          simp
          refine List.ext_getElem HN.out fun j h h' => h0.out j h h' (by have := EL.out; omega)
        go_wp2
        go_ret
        exact ⟨by rw [H.out]; rfl, hb⟩
  · have H : Hid (decide (ll = mm) = false) := by show decide (ll = mm) = false; simp; rintro rfl; exact hn rfl
    have e1 : ((vs.length : Int) != (ws.length : Int)) = true := by simp; omega
    clear hn el em
    go_enter Tryd.func32, Tryd.ntmps32
    go_wp2
    go_ret
    exact ⟨by rw [H.out]; rfl, Below.refl _ _⟩

theorem frame_c (w : World) : Calls Tryd.prog 91 #[] w fun r w' => (∃ A G : Option Addr, r = .returned (.agg #[.int .i64 0, .int .i64 9, .slice A 4 4, .slice G 1 1]) ∧ Rd w' A (gs [(0, 0), (0, 5), (0, 5), (0, 0)]) ∧ Rd w' G (ints [2])) ∧ Below w.heap.size w w' := by
  go_enter Tryd.func91, Tryd.ntmps91
  go_wp2
  obtain ⟨WE, hWE, hE, hA, hG, hBE⟩ : ∃ WE, ((w.alloc (.cells #[.int .i64 0, .int .i64 9, .slice (some ⟨w.heap.size + 1, 0, none⟩) 4 4, .slice (some ⟨w.heap.size + 1 + 1, 0, none⟩) 1 1] 81)).alloc (.cells #[.int .i64 0, .int .i64 0, .int .i64 0, .int .i64 5, .int .i64 0, .int .i64 5, .int .i64 0, .int .i64 0] 76)).alloc (.cells #[.int .i64 2] 3) = WE ∧
      Blk WE w.heap.size 81 [.int .i64 0, .int .i64 9, .slice (some ⟨w.heap.size + 1, 0, none⟩) 4 4, .slice (some ⟨w.heap.size + 1 + 1, 0, none⟩) 1 1] ∧ Blk WE (w.heap.size + 1) 76 (gs [(0, 0), (0, 5), (0, 5), (0, 0)]) ∧ Blk WE (w.heap.size + 1 + 1) 3 (ints [2]) ∧ Below w.heap.size w WE := by
    obtain ⟨W, h1, h2, h3, h4, h5⟩ := new3 w 81 76 3 [.int .i64 0, .int .i64 9, .slice (some ⟨w.heap.size + 1, 0, none⟩) 4 4, .slice (some ⟨w.heap.size + 1 + 1, 0, none⟩) 1 1] (gs [(0, 0), (0, 5), (0, 5), (0, 0)]) (ints [2])
    subst h1
    refine ⟨_, rfl, h2, h3, h4, ?_⟩
    exact (((Below.refl _ _).alloc (Nat.le_refl _) _).alloc (by simp) _).alloc (by simp; omega) _
  rw [hWE]
  have g0 := hE.cell 0
  have g1 := hE.cell 1
  have g2 := hE.cell 2
  have g3 := hE.cell 3
  simp only [List.getElem?_cons_zero, List.getElem?_cons_succ] at g0 g1 g2 g3
  clear hWE
  try simp only [Exit.inBlock, Exit.then]
  refine bodyPost_ret (by simp [results, Tryd.results91, go_sem, g0, g1, g2, g3]; try rfl) rfl ?_
  exact ⟨⟨_, _, rfl, hA.rd (List.prefix_refl _), hG.rd (List.prefix_refl _)⟩, hBE⟩
end Go.Proofs.YtmedjedmeggbpaaDoor
