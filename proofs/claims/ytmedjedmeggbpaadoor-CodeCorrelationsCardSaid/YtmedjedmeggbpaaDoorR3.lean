/- Contracts: the wave of a code as the reference makes it. -/
import Derived.Test.YtmedjedmeggbpaaDoorR2
namespace Go.Proofs.YtmedjedmeggbpaaDoor
open Go.RowKit
set_option maxRecDepth 100000

theorem reL_length (l : List Int) : (reL l).length = l.length := by simp [reL]

theorem refWaveOf_c (l : List Int) (A : Option Addr) (c : Nat) (w : World) (hr : Rd w A (ints l)) (hl : l.length ≤ 1000) :
    Calls Tryd.prog 25 #[.slice A l.length c] w fun r w' => (∃ A' c', r = .returned (.slice A' (reL l).length c') ∧ RdT w' 76 A' (gs (reL l))) ∧ Below w.heap.size w w' := by
  obtain ⟨i0, hi, iz0, iz1, iz2⟩ := info_parts Tryd.info76
  go_enter Tryd.func25, Tryd.ntmps25
  go_wp2
  go_loopw [3, 4] (fun v i wr => ∃ k : Nat, k ≤ l.length ∧ i = .int .i64 k ∧ Below w.heap.size w wr ∧ wr.ownsRow w.heap.size 76 2 v k (gs (reL (l.take k)))) (fun _ i _ => l.length - (intOf i).toNat)
  case atStart => exact ⟨0, Nat.zero_le _, rfl, Below.refl _ _, World.ownsRow_nil _ _ _ _⟩
  case round =>
    obtain ⟨k, hk, rfl, hbr, hown⟩ := hrel
    by_cases hlt : k < l.length
    · obtain ⟨b, off, rfl, hbl, z0⟩ := (hr.bel hbr).int_at hlt
      have HW : Hid (reL (l.take (k + 1)) = reL (l.take k) ++ [(l[k], 0)]) := by
        show _ = _
        rw [List.take_succ_eq_append_getElem hlt]
        exact List.map_append
      generalize l[k] = x at z0 HW
      generalize reL (l.take k) = L at hown HW
      go_wp2_with (first
        | (at_builtin; refine wpList_append_own _ rfl _ _ 30 rfl w.heap.size 76 i0 _ 2 16 Tryd.underlying30 hi iz0 iz1 iz2 rfl (by decide) _ _ _ rfl (hown.alloc _) ⟨wr.heap.size, 0, none⟩ 1 1 [.int .i64 x, .int .i64 0] rfl rfl (World.news_of_block (heap_alloc_new wr _)) (by simp [Value.oneCell']) (by unfold maxLen; omega) (by omega) (by have := hbr.size; simp; omega) ?_; intro v' w5 hown5 hg5 _))
      have hb5 : Below w.heap.size w w5 := (hbr.alloc hbr.size _).grown hg5 (by have := hbr.size; simp; omega) (fun j hj => (hown.lt j hj).1)
      go_roundw
      case rel => exact ⟨k + 1, by omega, by go_num, hb5, by rw [HW.out, gs_append]; exact hown5⟩
      case measure => simp [intOf]; omega
    · obtain rfl : k = l.length := by omega
      obtain ⟨A', c', rfl⟩ := ownsRow_slice hown
      rw [List.take_of_length_le (Nat.le_refl _)] at hown
      go_wp2
      go_ret
      exact ⟨⟨A', c', by rw [reL_length]; rfl, RdT.of_own hown⟩, hbr⟩
end Go.Proofs.YtmedjedmeggbpaaDoor
