/- Contracts: the library's Grow from nothing and Concat of two slices. -/
import Derived.Test.YtdpcehlakhahiaaDoorP1
import Derived.Lib.AppendZerosOnto
import Derived.Lib.Walk
import Derived.Lib.SliceRun
namespace Go.Proofs.YtdpcehlakhahiaaDoor
open Go.RowKit
set_option maxRecDepth 100000

set_option maxHeartbeats 1000000 in
theorem grow_c (n : Nat) (w : World) (h1 : 1 ≤ n) (hn : n ≤ 1000000) :
    Calls Tryd.prog 96 #[.slice none 0 0, .int .i64 n] w fun r w' => (∃ v, r = .returned v ∧ w'.ownsRow w.heap.size 3 1 v 0 []) ∧ Below w.heap.size w w' := by
  obtain ⟨i0, hi, hz0, hz1, hz2⟩ := info_parts Tryd.info3
  have hold : (Builtin.firstCells i0.size 0 (.slice none 0 0)).run Tryd.prog w.drew = .ok #[] w.drew := by rw [hz1]; exact run_firstCells_none w.drew 1 0 0 0
  have hrz : ∀ ty, (Builtin.append_ #[22, 3] ty #[.slice none 0 0, .int .i64 (n : Int)]).run Tryd.prog w =
      .ok (.slice (some ⟨w.heap.size, 0, none⟩) n (grownCap w n 0 3)) (w.drew.alloc (.cells (#[] ++ Builtin.zeroCells (Value.int .i64 0).cells n ++ Builtin.zeroCells (Value.int .i64 0).cells (grownCap w n 0 3 - n)) 3)) := fun ty => by
    have h := Lib.run_append_grow_zeros (P := Tryd.prog) w 22 3 ty 3 i0 (.int .i64 0) .i64 .i64 Tryd.underlying22 Tryd.underlying3 hi hz0 none 0 0 [] hold n (by omega) (by omega) (by omega) (by omega) (by rw [hz2]; omega)
      (by rw [hz2]; exact growslice_fits (by omega) (by omega))
    simpa using h
  have hGn : n ≤ grownCap w n 0 3 := by have := grownCap_ge w n 0 3; omega
  have hG63 : grownCap w n 0 3 ≤ maxLen := grownCap_le_maxLen w n 0 3 (by unfold maxLen; omega)
  generalize grownCap w n 0 3 = G at hrz hGn hG63
  clear hold
  have hsz : (#[] ++ Builtin.zeroCells (Value.int .i64 0).cells n ++ Builtin.zeroCells (Value.int .i64 0).cells (G - n)).size = G * 1 := by
    simp [Builtin.zeroCells, Value.cells]
    omega
  generalize (#[] ++ Builtin.zeroCells (Value.int .i64 0).cells n ++ Builtin.zeroCells (Value.int .i64 0).cells (G - n)) = Z at hrz hsz
  have ho : (w.drew.alloc (.cells Z 3)).ownsRow w.heap.size 3 1 (.slice (some ⟨w.heap.size, 0, none⟩) 0 G) 0 [] :=
    World.ownsRow_made w.drew Z G (Nat.le_refl _) (by omega) hsz
  have hb : Below w.heap.size w (w.drew.alloc (.cells Z 3)) := ((Below.refl _ _).drew).alloc (by simp) _
  unfold maxLen at hG63
  go_enter Tryd.func96, Tryd.ntmps96
  go_wp2_with (at_builtin; refine Lib.wpList_append_run _ rfl _ _ _ _ rfl _ _ rfl rfl _ _ (hrz _) ?_)
  all_goals (go_ret; exact ⟨⟨_, rfl, ho⟩, hb⟩)

theorem concat_c (a b : List Int) (A B : Option Addr) (c d g : Nat) (w : World) (hg : Blk w g 22 [.slice A a.length c, .slice B b.length d]) (hr : Rd w A (ints a)) (hs : Rd w B (ints b)) (h1 : 1 ≤ a.length) (hl : a.length ≤ 1000) (hl2 : b.length ≤ 1000) :
    Calls Tryd.prog 62 #[.slice (some ⟨g, 0, none⟩) 2 2] w fun r w' => (∃ A' c', r = .returned (.slice A' (a.length + b.length) c') ∧ RdT w' 3 A' (ints (a ++ b))) ∧ Below w.heap.size w w' := by
  obtain ⟨i0, hi, iz0, iz1, iz2⟩ := info_parts Tryd.info3
  have HG := hide (fun W => grow_c (a.length + b.length) W (by omega) (by omega))
  rw [Int.natCast_add] at HG
  have c0 := hg.cell 0; have c1 := hg.cell 1; simp only [List.getElem?_cons_zero, List.getElem?_cons_succ] at c0 c1
  go_enter Tryd.func62, Tryd.ntmps62
  go_wp2
  go_loopw [3, 11] (fun s i wr => w = wr ∧ ((i = .int .i64 0 ∧ s = .int .i64 0) ∨ (i = .int .i64 1 ∧ s = .int .i64 a.length) ∨ (i = .int .i64 2 ∧ s = .int .i64 ((a.length : Int) + b.length)))) (fun _ i _ => 2 - (intOf i).toNat)
  case atStart => exact ⟨rfl, .inl ⟨rfl, rfl⟩⟩
  case round =>
    obtain ⟨rfl, ⟨rfl, rfl⟩ | ⟨rfl, rfl⟩ | ⟨rfl, rfl⟩⟩ := hrel
    · go_wp2
      go_roundw
      case rel => exact ⟨trivial, .inr (.inl ⟨rfl, rfl⟩)⟩
      case measure => simp [intOf]
    · go_wp2
      go_roundw
      case rel => exact ⟨trivial, .inr (.inr ⟨rfl, rfl⟩)⟩
      case measure => simp [intOf]
    · go_wp2_with (first | (go_at_call 96; refine (HG.out _).mono ?_; rintro e w1 ⟨⟨v, rfl, hown⟩, hb1⟩))
      have hgw := hg.lt
      have hw0 := hb1.size
      have HC := hide (fun W (h : Below w.heap.size w W) => show W.cell? ⟨g, 0, none⟩ = some (.slice A a.length c) ∧ W.cell? ⟨g, 1, none⟩ = some (.slice B b.length d) from ⟨(h.cell (p := ⟨g, 0, none⟩) hgw).trans c0, (h.cell (p := ⟨g, 1, none⟩) hgw).trans c1⟩)
      clear HG c0 c1
      go_loopw [6, 27] (fun v i wr => Below w.heap.size w wr ∧ ((i = .int .i64 0 ∧ wr.ownsRow w.heap.size 3 1 v 0 []) ∨ (i = .int .i64 1 ∧ wr.ownsRow w.heap.size 3 1 v a.length (ints a)) ∨ (i = .int .i64 2 ∧ wr.ownsRow w.heap.size 3 1 v (a.length + b.length) (ints (a ++ b))))) (fun _ i _ => 2 - (intOf i).toNat)
      case atStart => exact ⟨hb1, .inl ⟨rfl, hown⟩⟩
      case round =>
        obtain ⟨hbr, ⟨rfl, ho⟩ | ⟨rfl, ho⟩ | ⟨rfl, ho⟩⟩ := hrel
        · obtain ⟨z0, z1⟩ := HC.out _ hbr
          go_wp2_with (first | (at_builtin; refine wpList_append_rd _ rfl _ _ 22 rfl w.heap.size 3 i0 (.int .i64 0) 1 8 Tryd.underlying22 hi iz0 iz1 iz2 rfl (by decide) _ 0 [] rfl ho A a.length c (ints a) rfl (by simp) (hr.bel hbr) (ints_one a) (by unfold maxLen; omega) (by omega) hbr.size ?_; intro v' w2 hown2 hg2))
          have hb2 := hbr.grown hg2 hbr.size (fun j hj => (ho.lt j hj).1)
          rw [Nat.zero_add, List.nil_append] at hown2
          go_roundw
          case rel => exact ⟨hb2, .inr (.inl ⟨rfl, hown2⟩)⟩
          case measure => simp [intOf]
        · obtain ⟨z0, z1⟩ := HC.out _ hbr
          go_wp2_with (first | (at_builtin; refine wpList_append_rd _ rfl _ _ 22 rfl w.heap.size 3 i0 (.int .i64 0) 1 8 Tryd.underlying22 hi iz0 iz1 iz2 rfl (by decide) _ a.length (ints a) rfl ho B b.length d (ints b) rfl (by simp) (hs.bel hbr) (ints_one b) (by unfold maxLen; omega) (by omega) hbr.size ?_; intro v' w2 hown2 hg2))
          have hb2 := hbr.grown hg2 hbr.size (fun j hj => (ho.lt j hj).1)
          rw [← ints_append] at hown2
          go_roundw
          case rel => exact ⟨hb2, .inr (.inr ⟨rfl, hown2⟩)⟩
          case measure => simp [intOf]
        · obtain ⟨A', c', rfl⟩ := ownsRow_slice ho
          go_wp2
          go_ret
          exact ⟨⟨A', c', rfl, RdT.of_own ho⟩, hbr⟩
end Go.Proofs.YtdpcehlakhahiaaDoor
