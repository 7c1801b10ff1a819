/- The law of the true offset: words, the numbers. -/
import Derived.Test.YtmdmkmfemhkfgaaE20
set_option linter.unusedSimpArgs false
set_option linter.unusedVariables false
set_option linter.unusedSimpArgs false
set_option linter.unusedVariables false
namespace Go.Proofs.Ytmdmkmfemhkfgaa
open Go.RowKit
set_option maxRecDepth 100000

theorem quiet_eq {f : FuncId} {args : Array Value} {w : World} {n : Nat} {v : Value}
    (h : Calls Try.prog f args (w.drewN n) fun e w' => e = .returned v ∧ w.drewN n = w') : Calls Try.prog f args (w.drewN n) fun e w'' => e = .returned v ∧ ∃ m, w'' = w.drewN m :=
  Calls.quiet_of_same (h.mono fun _ _ h => ⟨h.1, h.2.symm⟩)
/-- Twice by how many thousandths the offset changes on an exchange. -/
def slowN (ch b h : Int) : Int := 2 * max ch (-ch) * (b + h)
def Slow (ch : Int) (B H : List Int) (n : Nat) : Prop := ∃ i, i < n ∧ 1000 ≤ slowN ch (B.getD i 0) (H.getD i 0)
theorem getI {L : List Int} {k : Nat} (h : k < L.length) : L.getD k 0 = L[k] := by rw [List.getD, List.getElem?_eq_getElem h]; rfl

set_option maxHeartbeats 2000000 in
theorem slow_c (off ch : Int) (A1 A2 A3 : Option Addr) (n c1 c2 c3 : Nat) (B H : List Int) (b : Bool) (w : World) (hB : Rd w A2 (ints B)) (hH : Rd w A3 (ints H)) (hnB : B.length = n) (hnH : H.length = n) (hn : n ≤ 1000)
    (hch : -1000 ≤ ch ∧ ch ≤ 1000) (hbB : ∀ i, i < n → 0 ≤ B.getD i 0 ∧ B.getD i 0 ≤ 10000) (hbH : ∀ i, i < n → 0 ≤ H.getD i 0 ∧ H.getD i 0 ≤ 10000) (hb : b = true ↔ Slow ch B H n) :
    Calls Try.prog 24 #[.agg #[.int .i64 off, .int .i64 ch, .slice A1 n c1, .slice A2 n c2, .slice A3 n c3]] w fun r w' => r = .returned (.bool b) ∧ Below w.heap.size w w' := by
  obtain ⟨w1, hw1⟩ : ∃ W, w.alloc (.cells #[.int .i64 off, .int .i64 ch, .slice A1 n c1, .slice A2 n c2, .slice A3 n c3] 49) = W := ⟨_, rfl⟩
  have hX : Blk w1 w.heap.size 49 [.int .i64 off, .int .i64 ch, .slice A1 n c1, .slice A2 n c2, .slice A3 n c3] := by rw [← hw1]; exact Blk.new w _ [_, _, _, _, _]
  have hB0 : Below w.heap.size w w1 := by rw [← hw1]; exact alloc_bel _ _
  have hB1 := hB.bel hB0
  have hH1 := hH.bel hB0
  have HS := hide (size_c ch · (by omega) (by omega))
  have HB := hide hb
  have HBB := hide hbB
  have HBH := hide hbH
  have hm : 0 ≤ max ch (-ch) ∧ max ch (-ch) ≤ 1000 := by omega
  have HSN : Hid (∀ x y, slowN ch x y = 2 * max ch (-ch) * (x + y)) := fun _ _ => rfl
  generalize max ch (-ch) = m at HS hm HSN
  have HW := hide hw1
  have hz := hX.lt
  clear hw1 hB hH hb hbB hbH
  go_enter Try.func24, Try.ntmps24
  go_upto_region 1 with fail
  rw [HW.out]
  go_wp2
  go_loopw [3] (fun i wr => ∃ k : Nat, k ≤ n ∧ i = .int .i64 k ∧ Below w1.heap.size w1 wr ∧ Hid (∀ j, j < k → slowN ch (B.getD j 0) (H.getD j 0) < 1000)) (fun i _ => n - (intOf i).toNat)
  case atStart => exact ⟨0, Nat.zero_le _, rfl, Below.refl _ _, fun _ h => by omega⟩
  case round =>
    obtain ⟨k, hk, rfl, hbr, h0⟩ := hrel
    have hXr := hX.bel hbr
    have hBr := bel_tr hB0 hB0.size hbr
    have c0 := hXr.cell 0; have c1 := hXr.cell 1; have c2 := hXr.cell 2; have c3 := hXr.cell 3; have c4 := hXr.cell 4; simp only [List.getElem?_cons_zero, List.getElem?_cons_succ] at c0 c1 c2 c3 c4
    have hzr := hXr.lt
    by_cases hlt : k < n
    · obtain ⟨g, o, e2, hg, x0⟩ := (hB1.bel hbr).int_at (show k < B.length by omega)
      obtain ⟨g', o', e3, hg', y0⟩ := (hH1.bel hbr).int_at (show k < H.length by omega)
      subst e2 e3
      have hb1 := HBB.out k hlt
      have hb2 := HBH.out k hlt
      have hb3 := HSN.out (B.getD k 0) (H.getD k 0)
      rw [← getI (by omega)] at x0 y0
      have HK : Hid (∀ v, slowN ch (B.getD k 0) (H.getD k 0) = v → (1000 ≤ v → b = true) ∧ (v < 1000 → ∀ j, j < k + 1 → slowN ch (B.getD j 0) (H.getD j 0) < 1000)) := by
        intro v hv
        refine ⟨fun h => HB.out.2 ⟨k, hlt, by omega⟩, fun h j hj => ?_⟩
        by_cases e : j = k
        · subst e; omega
        · exact h0.out j (by omega)
      generalize B.getD k 0 = x at x0 hb1 hb3 HK
      generalize H.getD k 0 = y at y0 hb2 hb3 HK
      have hp := mul_bd (a := 2 * m) (b := x + y) (A := 2000) (B := 20000) (by omega) (by omega) (by omega) (by omega)
      have HK2 := hide (HK.out _ rfl)
      rw [hb3] at HK2
      have i0 : (k : Int) < (n : Int) := by omega
      clear HK hb3 HB HBB HBH h0 HSN
      by_cases hs : 1000 ≤ 2 * m * (x + y)
      · have e1 : decide (1000 ≤ 2 * m * (x + y)) = true := decide_eq_true hs
        have HF := hide (HK2.out.1 hs)
        clear HK2
        go_upto_region 4 with fail
        go_quiet ((go_at_call 58; exact quiet_eq (HS.out _)))
        go_wp2
        go_ret
        exact ⟨by rw [HF.out]; rfl, below_drewN hBr _⟩
      · have e1 : decide (1000 ≤ 2 * m * (x + y)) = false := decide_eq_false hs
        have HF := hide (HK2.out.2 (by omega))
        clear HK2
        go_upto_region 4 with fail
        go_quiet ((go_at_call 58; exact quiet_eq (HS.out _)))
        go_wp2
        go_roundw
        case rel => exact ⟨k + 1, by omega, by go_num, below_drewN hbr _, HF⟩
        case measure => simp [intOf]; omega
    · obtain rfl : k = n := by omega
      have HF : Hid (b = false) := by
        show _ = _
        cases h : b
        · rfl
        · obtain ⟨i, hi, hs⟩ := HB.out.1 h
          have := h0.out i hi
          omega
      go_wp2
      go_ret
      exact ⟨by rw [HF.out]; rfl, hBr⟩
end Go.Proofs.Ytmdmkmfemhkfgaa
