/- Contracts: codes with opposite numbers, two codes by turns, copies that the call owns. -/
import Derived.Test.YtdpcehlakhahiaaDoorKp
import Derived.Test.YtdpcehlakhahiaaDoorMathE
import Derived.Test.YtdpcehlakhahiaaDoorOrdM
namespace Go.Proofs.YtdpcehlakhahiaaDoor
open Go.RowKit
set_option maxRecDepth 100000

theorem map_range_getD (f : Int → Int) (l : List Int) : (List.range l.length).map (fun i => f (l.getD i 0)) = l.map f := by
  refine List.ext_getElem (by simp) fun i h1 h2 => ?_
  have h : i < l.length := by simpa using h2
  simp [List.getD, h]

theorem negL_range (l : List Int) : (List.range l.length).map (fun i => -(l.getD i 0)) = negL l := map_range_getD (fun x => -x) l
theorem negL_small {l : List Int} (h : Small l) : Small (negL l) := fun x hx => by
  obtain ⟨y, hy, rfl⟩ := List.mem_map.1 hx
  have := h y hy
  omega

theorem opposite_c (l : List Int) (A : Option Addr) (c : Nat) (w : World) (hr : Rd w A (ints l)) (hs : Small l) (hl : l.length ≤ 1000) :
    Calls Tryd.prog 63 #[.slice A l.length c] w fun r w' => (∃ A' c', r = .returned (.slice A' l.length c') ∧ RdT w' 3 A' (ints (negL l))) ∧ Below w.heap.size w w' := by
  obtain ⟨i0, hi, hz0, hz1, hz2⟩ := info_parts Tryd.info3
  go_enter Tryd.func63, Tryd.ntmps63
  go_wp2_with (first | (at_make; refine wpList_make_full _ rfl _ _ 22 rfl w.heap.size 3 i0 _ 1 Tryd.underlying22 hi hz0 hz1 _ _ _ _ l.length rfl rfl rfl rfl (by rw [hz2]; omega) (by simp only [maxLen]; omega) (by simp) ?_; intro w1 hown1 hg1))
  have hB1 : Blk w1 w.heap.size 3 (ints (List.replicate l.length 0)) := by
    have := Blk.of_own hown1
    rw [show (Value.int .i64 0).cells = #[.int .i64 0] from rfl] at this
    have e := madeCells_one (.int .i64 0) rfl l.length
    rw [show (Value.int .i64 0).cells = #[.int .i64 0] from rfl] at e
    rw [e] at this
    simpa [ints] using this
  have hbel1 : Below w.heap.size w w1 := (Below.refl _ _).grown hg1 (Nat.le_refl _) (by simp)
  clear hown1 hg1
  go_loopw [11] (fun i wr => ∃ k : Nat, k ≤ l.length ∧ i = .int .i64 k ∧ Below w.heap.size w wr ∧ Blk wr w.heap.size 3 (ints ((List.range k).map (fun i => -(l.getD i 0)) ++ List.replicate (l.length - k) 0))) (fun i _ => l.length - (intOf i).toNat)
  case atStart => exact ⟨0, Nat.zero_le _, rfl, hbel1, hB1⟩
  case round =>
    obtain ⟨k, hk, rfl, hbel, hB⟩ := hrel
    by_cases hlt : k < l.length
    · obtain ⟨b, off, rfl, hbl, z0⟩ := (hr.bel hbel).int_at hlt
      have hgd : l[k] = l.getD k 0 := by simp [List.getD, hlt]
      rw [hgd] at z0
      obtain ⟨g1, g2⟩ := hs.at_ k
      have hc0 := hB.cell k
      have hf0 := hB.frozen k
      have hcell : wr.cell? ⟨w.heap.size, k, none⟩ = some (.int .i64 0) := by
        rw [hc0]
        simp [ints, show 0 < l.length - k from by omega]
      clear hc0 hgd
      have HB : Hid (Blk (wr.setCell ⟨w.heap.size, k, none⟩ (.int .i64 (-(l.getD k 0)))) w.heap.size 3 (ints ((List.range (k + 1)).map (fun i => -(l.getD i 0)) ++ List.replicate (l.length - (k + 1)) 0))) := by
        have := hB.set_ k (.int .i64 (-(l.getD k 0)))
        rwa [ints_set_next (fun i => -(l.getD i 0)) _ _ hlt] at this
      clear hB
      generalize l.getD k 0 = x at z0 g1 g2 HB
      go_wp2
      go_roundw
      case rel => exact ⟨k + 1, by omega, by go_num, hbel.setCell (Nat.le_refl _) _, HB.out⟩
      case measure => simp [intOf]; omega
    · obtain rfl : k = l.length := by omega
      go_wp2
      go_ret
      refine ⟨⟨_, _, rfl, ?_⟩, hbel⟩
      rw [Nat.sub_self] at hB
      refine hB.rdT ?_
      rw [List.replicate_zero, List.append_nil, negL_range]
      exact List.prefix_refl _



set_option maxHeartbeats 1000000 in
theorem byTurns_c (a b : List Int) (A B : Option Addr) (c d : Nat) (w : World) (hr : Rd w A (ints a)) (hs : Rd w B (ints b)) (hl : a.length ≤ 1000) (hab : a.length = b.length) :
    Calls Tryd.prog 64 #[.slice A a.length c, .slice B b.length d] w fun r w' => (∃ A' c', r = .returned (.slice A' (2 * a.length) c') ∧ RdT w' 3 A' (ints (turnsTo a b a.length))) ∧ Below w.heap.size w w' := by
  obtain ⟨i0, hi, hz0, hz1, hz2⟩ := info_parts Tryd.info3
  have HAB := hide hab
  clear hab
  go_enter Tryd.func64, Tryd.ntmps64
  go_wp2_with (first | (at_make; refine wpList_make_own _ rfl _ _ 22 rfl w.heap.size 3 i0 _ 1 Tryd.underlying22 hi hz0 hz1 _ _ _ (2 * a.length) rfl rfl (by omega) (by rw [hz2]; omega) (by simp only [maxLen]; omega) (by simp) ?_; intro w1 hown1 hg1))
  have hbel0 : Below w.heap.size w w1 := (Below.refl _ _).grown hg1 (Nat.le_refl _) (by simp)
  clear hg1
  go_loopw [5, 13] (fun v i wr => ∃ k : Nat, k ≤ a.length ∧ i = .int .i64 k ∧ Below w.heap.size w wr ∧ wr.ownsRow w.heap.size 3 1 v (2 * k) (ints (turnsTo a b k))) (fun _ i _ => a.length - (intOf i).toNat)
  case atStart => exact ⟨0, Nat.zero_le _, rfl, hbel0, hown1⟩
  case round =>
    obtain ⟨k, hk, rfl, hbel, hown⟩ := hrel
    by_cases hlt : k < a.length
    · obtain ⟨bA, oA, rfl, hbA, z0⟩ := hr.int_at hlt
      obtain ⟨bB, oB, rfl, hbB, z1⟩ := hs.int_at (show k < b.length by have := HAB.out; omega)
      have HT : Hid (ints (turnsTo a b (k + 1)) = ints (turnsTo a b k) ++ [.int .i64 a[k], .int .i64 (b[k]'(by have := HAB.out; omega))]) := by
        show _ = _
        rw [turnsTo_succ, ints_append]
        simp [ints, List.getD, hlt, show k < b.length by have := HAB.out; omega]
      generalize a[k] = x at z0 HT
      generalize b[k]'(by have := HAB.out; omega) = y at z1 HT
      obtain ⟨A', c', rfl⟩ := ownsRow_slice hown
      go_upto_region 5 with fail
      have ix0 : (0 : Int) ≤ (k : Int) := by omega
      have ix1 : (k : Int) < (a.length : Int) := by omega
      have ix2 : (k : Int) < (b.length : Int) := by have := HAB.out; omega
      have HS : Hid (∀ w', Below w.heap.size w w' → w'.cell? ⟨bA, oA + k, none⟩ = some (.int .i64 x) ∧ w'.cell? ⟨bB, oB + k, none⟩ = some (.int .i64 y)) := fun w' hb => ⟨(hb.cell (p := ⟨bA, _, none⟩) hbA).trans z0, (hb.cell (p := ⟨bB, _, none⟩) hbB).trans z1⟩
      clear z0 z1
      refine wp_region_M (fun w' => w'.cell? ⟨bA, oA + k, none⟩ = some (.int .i64 x) ∧ w'.cell? ⟨bB, oB + k, none⟩ = some (.int .i64 y)) 11 (by kernel_rfl) ?_
      have hSd := HS.out _ hbel.drew
      refine AnyM.take (i := 0) (v := ?_) rfl (by kernel_rfl) (by kernel_rfl) (by kernel_rfl) (by kernel_rfl) (fun _ _ _ h => h) (Or.inl ⟨by rfl, ?_⟩) (by assumption) ?_
      rotate_left 1
      · (intro w hSw; (try dsimp only at hSw); go_simp <;> with_reducible rfl)
      try simp only [Act.put]
      refine AnyM.take (i := 1) (v := ?_) rfl (by kernel_rfl) (by kernel_rfl) (by kernel_rfl) (by kernel_rfl) (fun _ _ _ h => h) (Or.inl ⟨by rfl, ?_⟩) (by assumption) ?_
      rotate_left 1
      · (intro w hSw; (try dsimp only at hSw); go_simp <;> with_reducible rfl)
      try simp only [Act.put]
      refine AnyM.take (i := 2) (v := ?_) rfl (by kernel_rfl) (by kernel_rfl) (by kernel_rfl) (by kernel_rfl) (fun _ _ _ h => h) (Or.inl ⟨by rfl, ?_⟩) (by assumption) ?_
      rotate_left 1
      · (intro w hSw; (try dsimp only at hSw); go_simp <;> with_reducible rfl)
      try simp only [Act.put]
      refine AnyM.take (i := 3) (v := ?_) rfl (by kernel_rfl) (by kernel_rfl) (by kernel_rfl) (by kernel_rfl) (fun _ _ _ h => h) (Or.inl ⟨by rfl, ?_⟩) (by assumption) ?_
      rotate_left 1
      · (intro w hSw; (try dsimp only at hSw); go_simp <;> with_reducible rfl)
      try simp only [Act.put]
      refine AnyM.take (i := 4) (v := ?_) rfl (by kernel_rfl) (by kernel_rfl) (by kernel_rfl) (by kernel_rfl) (fun _ _ _ h => h) (Or.inl ⟨by rfl, ?_⟩) (by assumption) ?_
      rotate_left 1
      · (intro w hSw; (try dsimp only at hSw); go_simp <;> with_reducible rfl)
      try simp only [Act.put]
      refine AnyM.take (i := 5) (v := ?_) rfl (by kernel_rfl) (by kernel_rfl) (by kernel_rfl) (by kernel_rfl) (fun _ _ _ h => h) (Or.inl ⟨by rfl, ?_⟩) (by assumption) ?_
      rotate_left 1
      · (intro w hSw; (try dsimp only at hSw); go_simp <;> with_reducible rfl)
      try simp only [Act.put]
      refine AnyM.take (i := 6) (v := ?_) rfl (by kernel_rfl) (by kernel_rfl) (by kernel_rfl) (by kernel_rfl) (fun _ _ _ h => h) (Or.inl ⟨by rfl, ?_⟩) (by assumption) ?_
      rotate_left 1
      · (intro w hSw; (try dsimp only at hSw); go_simp <;> with_reducible rfl)
      try simp only [Act.put]
      refine AnyM.take (i := 7) (v := ?_) rfl (by kernel_rfl) (by kernel_rfl) (by kernel_rfl) (by kernel_rfl) (fun _ _ _ h => h) (Or.inl ⟨by rfl, ?_⟩) (by assumption) ?_
      rotate_left 1
      · (intro w hSw; (try dsimp only at hSw); go_simp <;> with_reducible rfl)
      try simp only [Act.put]
      refine AnyM.take (i := 8) (v := ?_) rfl (by kernel_rfl) (by kernel_rfl) (by kernel_rfl) (by kernel_rfl) (fun _ _ _ h => h) (Or.inl ⟨by rfl, ?_⟩) (by assumption) ?_
      rotate_left 1
      · (intro w hSw; (try dsimp only at hSw); go_simp <;> with_reducible rfl)
      try simp only [Act.put]
      refine AnyM.next [9] (by kernel_rfl) (by simp) ?_
      refine NextM.cons rfl (fun K hK => ?_) NextM.nil
      go_simp
      have hbE := (bel_alloc hbel hbel.size (.cells #[.int .i64 x, .int .i64 y] 3)).drew
      have hE := (hown.alloc (.cells #[.int .i64 x, .int .i64 y] 3)).drew
      have hN : Blk (wr.alloc (.cells #[.int .i64 x, .int .i64 y] 3)).drew wr.heap.size 3 [.int .i64 x, .int .i64 y] := Blk.new wr 3 [.int .i64 x, .int .i64 y]
      have hSe := HS.out _ hbE
      have hsz := hbel.size
      have hzE : wr.heap.size + 1 = (wr.alloc (.cells #[.int .i64 x, .int .i64 y] 3)).drew.heap.size := by simp
      generalize (wr.alloc (.cells #[.int .i64 x, .int .i64 y] 3)).drew = WE at hbE hE hN hSe hzE ⊢
      try dsimp only
      refine hK.out _ _ (fun _ => hSe) ?_
      clear hK K
      try simp only [Act.put]
      refine AnyM.next [10] (by kernel_rfl) (by simp) ?_
      refine NextM.cons rfl (fun K hK => ?_) NextM.nil
      refine step_append_lies _ (by rfl) _ _ _ (by rfl) w.heap.size 3 i0 (.int .i64 0) 1 8 Tryd.underlying22 hi hz0 hz1 hz2 rfl (by decide) _ (2 * k) (ints (turnsTo a b k)) (by rfl) hE ⟨_, 0, none⟩ 2 2 [.int .i64 x, .int .i64 y] (by rfl) rfl (World.news_of_block hN) (by simp [Value.oneCell']) (by decide) (by unfold maxLen; omega) (by omega) (by omega) _ rfl ?_
      intro gv cv Wv hov hgv hatv hltv
      have hbV := hbE.grown hgv hbE.size (fun j hj => (hE.lt j hj).1)
      have hSv := HS.out _ hbV
      try dsimp only
      refine hK.out _ _ (fun _ => hSv) ?_
      clear hK K
      try simp only [Act.put]
      refine AnyM.next [11] (by kernel_rfl) (by simp) ?_
      refine NextM.cons rfl (fun K hK => ?_) NextM.nil
      go_simp
      refine hK.out _ _ (fun h => by simp at h) ?_
      clear hK K
      try simp only [Act.put]
      refine AnyM.done (by kernel_rfl) ?_ _
      rw [← HT.out] at hov
      go_wp2
      go_roundw
      case rel => exact ⟨k + 1, by omega, by go_num, hbV, by rw [show 2 * (k + 1) = 2 * k + 2 by omega]; exact hov⟩
      case measure => simp [intOf]; omega
    · obtain rfl : k = a.length := by omega
      obtain ⟨A', c', rfl⟩ := ownsRow_slice hown
      go_wp2
      go_ret
      exact ⟨⟨A', c', rfl, RdT.of_own hown⟩, hbel⟩
end Go.Proofs.YtdpcehlakhahiaaDoor
