/- Contracts: the reference's index squares. -/
import Derived.Test.YtkcjiejdjdcbeaaRy15
set_option linter.unusedSimpArgs false
set_option linter.unusedVariables false
set_option linter.unusedSimpArgs false
set_option linter.unusedVariables false
namespace Go.Proofs.Ytkcjiejdjdcbeaa
open Go.RowKit
set_option maxRecDepth 100000

/-- The index squares of slabs. -/
def idxL (f : Int) (l : List G) : List G := l.map fun g => idxQ g.2 f
theorem idxL_take {f : Int} {l : List G} {k : Nat} (hk : k < l.length) : idxL f (l.take (k + 1)) = idxL f (l.take k) ++ [idxQ l[k].2 f] := by
  unfold idxL
  rw [List.take_succ_eq_append_getElem hk, List.map_append]
  rfl
theorem Try.infoQ : (Try.prog.info? 26).map (fun i => (i.zero, i.size, i.bytes)) = some (some (.agg #[.int .i64 0, .int .i64 0]), 2, 16) := by kernel_rfl
set_option maxHeartbeats 2000000 in
theorem refIndexes_c (H f : Int) (A : Option Addr) (c : Nat) (l : List G) (w : World) (hr : Rd w A (gs l)) (hl : l.length ≤ 1000) (hok : OkS l) (f0 : 1 ≤ f) (f1 : f ≤ 3000) :
    Calls Try.prog 26 #[.agg #[.int .i64 H, .slice A l.length c], .int .i64 f] w fun r w' => (∃ A' c', r = .returned (.slice A' l.length c') ∧ Rd w' A' (gs (idxL f l))) ∧ Below w.heap.size w w' := by
  obtain ⟨i0, hi, iz0, iz1, iz2⟩ := info_parts Try.infoQ
  have hX := Blk.new w 24 [.int .i64 H, .slice A l.length c]
  have hbel := alloc_bel w (.cells #[.int .i64 H, .slice A l.length c] 24)
  have hrW := hr.bel hbel
  generalize hW : w.alloc (.cells #[.int .i64 H, .slice A l.length c] 24) = W at hX hbel hrW
  have HW := hide hW
  clear hW
  have mf := mul_bd (show 0 ≤ f by omega) f1 (show 0 ≤ f by omega) f1
  have mf1 := Int.mul_le_mul_of_nonneg_left f0 (show 0 ≤ f by omega)
  obtain ⟨F, hF⟩ : ∃ F, f * f = F := ⟨_, rfl⟩
  rw [hF] at mf
  have hF1 : 1 ≤ F := by omega
  have c0 := hX.cell 0; have c1 := hX.cell 1; simp only [List.getElem?_cons_zero, List.getElem?_cons_succ] at c0 c1
  go_enter Try.func26, Try.ntmps26
  go_upto_region 1 with fail
  rw [HW.out]
  go_wp2
  go_loopw [5, 6] (fun v i wr => ∃ k : Nat, k ≤ l.length ∧ i = .int .i64 k ∧ Below W.heap.size W wr ∧ wr.ownsRow W.heap.size 26 2 v k (gs (idxL f (l.take k)))) (fun _ i _ => l.length - (intOf i).toNat)
  case atStart => exact ⟨0, Nat.zero_le _, rfl, Below.refl _ _, by simpa [idxL] using World.ownsRow_nil _ _ _ _⟩
  case round =>
    clear c0 c1
    obtain ⟨k, hk, rfl, hb, hown⟩ := hrel
    have hXr := hX.bel hb
    have hzx := hXr.lt
    have hsz := hb.size
    have c0 := hXr.cell 0; have c1 := hXr.cell 1; simp only [List.getElem?_cons_zero, List.getElem?_cons_succ] at c0 c1
    obtain ⟨A3, c3, rfl⟩ := ownsRow_slice hown
    by_cases hlt : k < l.length
    · obtain ⟨b, off, rfl, hblt, x0, x1⟩ := (hrW.bel hb).g_at hlt
      have o := hok _ (List.getElem_mem hlt)
      have HT := hide (idxL_take (f := f) hlt)
      have HQ : redQ (F - l[k].2) F = idxQ l[k].2 f := by rw [← hF]; rfl
      have HLW := hide (fun W' => lowest_c (F - l[k].2) F W' hF1 (by omega) (by omega) (by omega))
      rw [HQ] at HLW
      clear HQ
      generalize idxQ l[k].2 f = z at HLW HT
      generalize l[k] = y at x0 x1 o HLW
      obtain ⟨y1, y2⟩ := y
      obtain ⟨z1, z2⟩ := z
      dsimp only at x0 x1 o HLW
      go_wp2_with (first
        | (go_at_call 87; refine (HLW.out _).mono ?_; rintro e_ w5 ⟨rfl, hb5⟩)
        | (at_builtin; refine wpList_append_own _ rfl _ _ 33 rfl W.heap.size 26 i0 _ 2 16 Try.underlying33 hi iz0 iz1 iz2 rfl (by decide) _ _ _ rfl ((ownsRow_bel hown hb5).alloc _) ⟨w5.heap.size, 0, none⟩ 1 1 [.int .i64 z1, .int .i64 z2] rfl rfl (World.news_of_block (heap_alloc_new w5 _)) (by simp [Value.oneCell']) (by unfold maxLen; omega) (by omega) (by have := hb5.size; simp; omega) ?_; intro v' w8 hown8 hg8 _))
      have hb7 : Below W.heap.size W w5 := bel_tr hb hsz hb5
      have hb8 : Below W.heap.size W w8 := (bel_alloc hb7 hb7.size _).grown hg8 (by have := hb7.size; simp; omega) (fun j hj => by have := (hown.lt j hj).1; omega)
      go_roundw
      case rel => exact ⟨k + 1, by omega, by go_num, hb8, by rw [HT.out, gs_append]; exact hown8⟩
      case measure => simp [intOf]; omega
    · obtain rfl : k = l.length := by omega
      rw [List.take_length] at hown
      go_wp2
      go_ret
      exact ⟨⟨_, _, rfl, Rd.of_own hown⟩, bel_tr hbel hbel.size hb⟩
end Go.Proofs.Ytkcjiejdjdcbeaa
