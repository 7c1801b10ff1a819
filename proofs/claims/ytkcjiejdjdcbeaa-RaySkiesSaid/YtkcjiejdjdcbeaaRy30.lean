/- Contracts: the reference's critical frequency. -/
import Derived.Test.YtkcjiejdjdcbeaaRy15
set_option linter.unusedSimpArgs false
set_option linter.unusedVariables false
set_option linter.unusedSimpArgs false
set_option linter.unusedVariables false
namespace Go.Proofs.Ytkcjiejdjdcbeaa
open Go.RowKit
set_option maxRecDepth 100000

theorem refCritical_c (H : Int) (A : Option Addr) (c : Nat) (l : List G) (w : World) (hr : Rd w A (gs l)) (hl : l.length ≤ 1000) (hok : OkS l) :
    Calls Try.prog 23 #[.agg #[.int .i64 H, .slice A l.length c]] w fun r w' => r = .returned (.int .i64 (rootN (grsQ l).toNat : Int)) ∧ Below w.heap.size w w' := by
  have hb := grsQ_ok hok
  obtain ⟨gn, hgn⟩ : ∃ gn : Nat, grsQ l = (gn : Int) := ⟨(grsQ l).toNat, by omega⟩
  have HRT := hide (fun W => root_c gn (by omega) W)
  have HGN : Hid (grsQ l = (gn : Int)) := hgn
  rw [hgn, Int.toNat_natCast]
  have hX := Blk.new w 24 [.int .i64 H, .slice A l.length c]
  have hbel := alloc_bel w (.cells #[.int .i64 H, .slice A l.length c] 24)
  have hrW := hr.bel hbel
  generalize hW : w.alloc (.cells #[.int .i64 H, .slice A l.length c] 24) = W at hX hbel hrW
  have HW := hide hW
  clear hW hgn hb
  have c0 := hX.cell 0; have c1 := hX.cell 1; simp only [List.getElem?_cons_zero, List.getElem?_cons_succ] at c0 c1
  go_enter Try.func23, Try.ntmps23
  go_upto_region 1 with fail
  rw [HW.out]
  go_wp2
  go_loop [3, 4] (fun m i => ∃ k : Nat, k ≤ l.length ∧ i = .int .i64 k ∧ m = .int .i64 (grsQ (l.take k))) (fun _ i => l.length - (intOf i).toNat)
  case atStart => exact ⟨0, Nat.zero_le _, rfl, rfl⟩
  case round =>
    obtain ⟨k, hk, rfl, rfl⟩ := hrel
    by_cases hlt : k < l.length
    · obtain ⟨g, off, rfl, hblt, x0, x1⟩ := hrW.g_at hlt
      have HT := grsQ_take hlt
      generalize l[k] = y at x0 x1 HT
      obtain ⟨y1, y2⟩ := y
      dsimp only at x0 x1 HT
      generalize grsQ (l.take k) = m at HT ⊢
      by_cases hm : m < y2
      · have HT2 : Hid (grsQ (l.take (k + 1)) = y2) := by show _ = _; rw [HT]; omega
        clear HT
        go_wp2
        go_round
        case rel => exact ⟨k + 1, by omega, by go_num, by rw [HT2.out]⟩
        case measure => simp [intOf]; omega
      · have HT2 : Hid (grsQ (l.take (k + 1)) = m) := by show _ = _; rw [HT]; omega
        clear HT
        go_wp2
        go_round
        case rel => exact ⟨k + 1, by omega, by go_num, by rw [HT2.out]⟩
        case measure => simp [intOf]; omega
    · obtain rfl : k = l.length := by omega
      rw [List.take_length, HGN.out]
      go_wp2_with (go_at_call 101; refine (HRT.out _).mono ?_; rintro e_ w_ ⟨rfl, rfl⟩)
      go_ret
      exact ⟨rfl, hbel⟩
end Go.Proofs.Ytkcjiejdjdcbeaa
