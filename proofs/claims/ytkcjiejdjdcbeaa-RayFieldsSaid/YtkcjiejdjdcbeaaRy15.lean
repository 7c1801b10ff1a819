/- Contracts: the greatest square, the critical and the secant frequency. -/
import Derived.Test.YtkcjiejdjdcbeaaRy14
set_option linter.unusedSimpArgs false
set_option linter.unusedVariables false
set_option linter.unusedSimpArgs false
set_option linter.unusedVariables false
namespace Go.Proofs.Ytkcjiejdjdcbeaa
open Go.RowKit
set_option maxRecDepth 100000



/-- The greatest square of slabs. -/
def grsQ (l : List G) : Int := l.foldl (fun m g => max m g.2) 0
theorem grsQ_take {l : List G} {k : Nat} (hk : k < l.length) : grsQ (l.take (k + 1)) = max (grsQ (l.take k)) l[k].2 := by
  unfold grsQ
  rw [List.take_succ_eq_append_getElem hk, List.foldl_append]
  rfl
theorem grsQ_bd : ∀ {l : List G}, (∀ g ∈ l, 0 ≤ g.2 ∧ g.2 ≤ 9000000) → ∀ m : Int, 0 ≤ m → m ≤ 9000000 → 0 ≤ l.foldl (fun m g => max m g.2) m ∧ l.foldl (fun m g => max m g.2) m ≤ 9000000
  | [], _, m, h0, h1 => ⟨h0, h1⟩
  | g :: l, h, m, h0, h1 => by
    have hg := h g (List.mem_cons_self ..)
    exact grsQ_bd (fun x hx => h x (List.mem_cons_of_mem _ hx)) (max m g.2) (by omega) (by omega)
theorem grsQ_ok {l : List G} (h : OkS l) : 0 ≤ grsQ l ∧ grsQ l ≤ 9000000 := grsQ_bd (fun g hg => ⟨(h g hg).2.2.1, (h g hg).2.2.2⟩) 0 (by omega) (by omega)
theorem greatestSquare_c (H : Int) (A : Option Addr) (c : Nat) (l : List G) (w : World) (hr : Rd w A (gs l)) (hl : l.length ≤ 1000) :
    Calls Try.prog 97 #[.agg #[.int .i64 H, .slice A l.length c]] w fun r w' => r = .returned (.int .i64 (grsQ l)) ∧ Below w.heap.size w w' := by
  have hX := Blk.new w 24 [.int .i64 H, .slice A l.length c]
  have hbel := alloc_bel w (.cells #[.int .i64 H, .slice A l.length c] 24)
  have hrW := hr.bel hbel
  generalize hW : w.alloc (.cells #[.int .i64 H, .slice A l.length c] 24) = W at hX hbel hrW
  have HW := hide hW
  clear hW
  have c0 := hX.cell 0; have c1 := hX.cell 1; simp only [List.getElem?_cons_zero, List.getElem?_cons_succ] at c0 c1
  go_enter Try.func97, Try.ntmps97
  go_upto_region 1 with fail
  rw [HW.out]
  go_wp2
  go_loopw [3, 9] (fun m i wr => ∃ k : Nat, k ≤ l.length ∧ i = .int .i64 k ∧ Below W.heap.size W wr ∧ m = .int .i64 (grsQ (l.take k))) (fun _ i _ => l.length - (intOf i).toNat)
  case atStart => exact ⟨0, Nat.zero_le _, rfl, Below.refl _ _, rfl⟩
  case round =>
    obtain ⟨k, hk, rfl, hb, rfl⟩ := hrel
    by_cases hlt : k < l.length
    · obtain ⟨g, off, rfl, hblt, x0, x1⟩ := (hrW.bel hb).g_at hlt
      have HT := grsQ_take hlt
      generalize l[k] = y at x0 x1 HT
      obtain ⟨y1, y2⟩ := y
      dsimp only at x0 x1 HT
      generalize grsQ (l.take k) = m at HT ⊢
      have hb8 : ∀ o, Below W.heap.size W (wr.alloc o) := fun o => bel_alloc hb hb.size o
      by_cases hm : m < y2
      · have HT2 : Hid (grsQ (l.take (k + 1)) = y2) := by show _ = _; rw [HT]; omega
        clear HT
        go_wp2
        go_roundw
        case rel => exact ⟨k + 1, by omega, by go_num, hb8 _, by rw [HT2.out]⟩
        case measure => simp [intOf]; omega
      · have HT2 : Hid (grsQ (l.take (k + 1)) = m) := by show _ = _; rw [HT]; omega
        clear HT
        go_wp2
        go_roundw
        case rel => exact ⟨k + 1, by omega, by go_num, hb8 _, by rw [HT2.out]⟩
        case measure => simp [intOf]; omega
    · obtain rfl : k = l.length := by omega
      rw [List.take_length]
      go_wp2
      go_ret
      exact ⟨rfl, bel_tr hbel hbel.size hb⟩
/-- The critical frequency of a sky, and the error. -/
def critQ (H : Int) (l : List G) : Int × Int := if (skyE H l).2 ≠ 0 then (0, (skyE H l).2) else ((rootN (grsQ l).toNat : Int), 0)
theorem criticalOf_c (H : Int) (A : Option Addr) (c : Nat) (l : List G) (w : World) (hr : Rd w A (gs l)) (hl : l.length ≤ 1000) :
    Calls Try.prog 19 #[.agg #[.int .i64 H, .slice A l.length c]] w fun r w' => r = .returned (.tuple #[.int .i64 (critQ H l).1, .int .i64 (critQ H l).2]) ∧ Below w.heap.size w w' := by
  have HS := hide (fun W (h : Rd W A (gs l)) => skyError_c H A c l W h hl)
  have HC : Hid (critQ H l = if (skyE H l).2 ≠ 0 then (0, (skyE H l).2) else ((rootN (grsQ l).toNat : Int), 0)) := rfl
  have HOK := hide (fun h : (skyE H l).2 = 0 => grsQ_ok (skyE_zero h).2.2.2.2)
  have hX := Blk.new w 24 [.int .i64 H, .slice A l.length c]
  have hbel := alloc_bel w (.cells #[.int .i64 H, .slice A l.length c] 24)
  have hrW := hr.bel hbel
  generalize hW : w.alloc (.cells #[.int .i64 H, .slice A l.length c] 24) = W at hX hbel hrW
  have HW := hide hW
  clear hW
  have c0 := hX.cell 0; have c1 := hX.cell 1; simp only [List.getElem?_cons_zero, List.getElem?_cons_succ] at c0 c1
  generalize (skyE H l).2 = e at HS HC HOK
  by_cases he : e = 0
  · have hb := HOK.out he
    have HG := hide (fun W (h : Rd W A (gs l)) => greatestSquare_c H A c l W h hl)
    have HR := hide (fun W => rootBelow_c (grsQ l) W hb.1 (by omega))
    have HC2 : Hid (critQ H l = ((rootN (grsQ l).toNat : Int), 0)) := by show _ = _; rw [HC.out, if_neg (by rw [he]; simp)]
    generalize (rootN (grsQ l).toNat : Int) = rt at HR HC2
    generalize grsQ l = g at HG HR
    have e1 : (e != 0) = false := by simp [he]
    clear he HC HOK hb
    go_enter Try.func19, Try.ntmps19
    go_upto_region 1 with fail
    rw [HW.out]
    go_wp2_with (first
      | (go_at_call 95; refine (HS.out _ hrW).mono ?_; rintro e_ w1 ⟨rfl, hb1⟩; have hX1 := hX.bel hb1; have y0 := hX1.cell 0; have y1 := hX1.cell 1; simp only [List.getElem?_cons_zero, List.getElem?_cons_succ] at y0 y1)
      | (go_at_call 97; refine (HG.out _ (hrW.bel hb1)).mono ?_; rintro e_ w2 ⟨rfl, hb2⟩)
      | (go_at_call 96; refine (HR.out _).mono ?_; rintro e_ w3 ⟨rfl, hb3⟩))
    go_ret2
    exact ⟨by rw [HC2.out]; rfl, bel_tr (bel_tr (bel_tr hbel hbel.size hb1) (by have := hbel.size; have := hb1.size; omega) hb2) (by have := hbel.size; have := hb1.size; have := hb2.size; omega) hb3⟩
  · have e1 : (e != 0) = true := by simpa using he
    have HC2 : Hid (critQ H l = (0, e)) := by show _ = _; rw [HC.out, if_pos he]
    clear he HC HOK
    go_enter Try.func19, Try.ntmps19
    go_upto_region 1 with fail
    rw [HW.out]
    go_wp2_with (first
      | (go_at_call 95; refine (HS.out _ hrW).mono ?_; rintro e_ w1 ⟨rfl, hb1⟩))
    go_ret2
    exact ⟨by rw [HC2.out]; rfl, bel_tr hbel hbel.size hb1⟩
end Go.Proofs.Ytkcjiejdjdcbeaa
