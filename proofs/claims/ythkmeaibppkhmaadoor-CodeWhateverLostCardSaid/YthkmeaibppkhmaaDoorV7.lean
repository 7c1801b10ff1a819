/- Contracts: the answer of a line at a lag, as the reference has it, over its level's contract. -/
import Derived.Test.YthkmeaibppkhmaaDoorV6
namespace Go.Proofs.YthkmeaibppkhmaaDoor
open Go.RowKit
set_option maxRecDepth 100000

/-- The reference's level, as a contract that is handed on. -/
def RefLevel : Prop := ∀ (V M : Option Addr) (q1 q2 : Nat) (vals : List (Int × Int)) (miss : List Int) (k : Nat) (b : Int) (w : World) (_ : Rd w V (gs vals)) (_ : Rd w M (ints miss)) (_ : okAt vals miss k) (_ : 0 ≤ b) (_ : b ≤ 2000000),
    Calls Tryd.prog 77 #[.agg #[.slice V vals.length q1, .slice M miss.length q2], .int .i64 k, .int .i64 b] w fun r w' => r = .returned (.agg #[.int .i64 (lvLo vals miss k b), .int .i64 (lvHi vals miss k b)]) ∧ Below w.heap.size w w'

set_option maxHeartbeats 1000000 in
theorem refAnswer_c (HL : RefLevel) (V M : Option Addr) (q1 q2 : Nat) (vals : List (Int × Int)) (miss : List Int) (k : Nat) (b t : Int) (w : World) (hs : Rd w V (gs vals)) (hr : Rd w M (ints miss)) (hok : okAt vals miss k) (hb1 : 0 ≤ b) (hb2 : b ≤ 2000000) (ht1 : 0 ≤ t) (ht2 : t ≤ 1000000000) :
    Calls Tryd.prog 78 #[.agg #[.slice V vals.length q1, .slice M miss.length q2], .int .i64 k, .agg #[.int .i64 b, .int .i64 t]] w fun r w' => r = .returned (.int .i64 (ansN vals miss k b t)) ∧ Below w.heap.size w w' := by
  have HLV := hide (fun W h1 h2 => HL V M q1 q2 vals miss k b W h1 h2 hok hb1 hb2)
  clear HL
  have HA : Hid (ansN vals miss k b t = if t * t ≤ lvLo vals miss k b then 2 else if lvHi vals miss k b < t * t then 0 else 1) := rfl
  generalize lvLo vals miss k b = lo at HLV HA
  generalize lvHi vals miss k b = hi at HLV HA
  have ht := sqv_bd (x := t) (m := 1000000000) (by omega) (by omega)
  go_enter Tryd.func78, Tryd.ntmps78
  go_upto_region 1 with fail
  obtain ⟨W, hW⟩ : ∃ W, (w.alloc (.cells #[.slice V vals.length q1, .slice M miss.length q2] 89)).alloc (.cells #[.int .i64 b, .int .i64 t] 105) = W := ⟨_, rfl⟩
  have hwW : Below w.heap.size w W := by rw [← hW]; exact (alloc_bel _ _).alloc (by simp) _
  have hX : Blk W w.heap.size 89 [.slice V vals.length q1, .slice M miss.length q2] := by rw [← hW]; exact (Blk.new w _ [_, _]).bel (alloc_bel _ _)
  have hY : Blk W (w.heap.size + 1) 105 [.int .i64 b, .int .i64 t] := by rw [← hW]; exact Blk.two w 89 105 [.slice V vals.length q1, .slice M miss.length q2] [.int .i64 b, .int .i64 t]
  rw [hW]
  clear hW
  obtain ⟨y, hy⟩ : ∃ y, w.heap.size + 1 = y := ⟨_, rfl⟩
  rw [hy] at hY ⊢
  clear hy
  have hsW := hs.bel hwW
  have hrW := hr.bel hwW
  have hxl := hX.lt
  have hyl := hY.lt
  have c0 := hX.cell 0; have c1 := hX.cell 1; simp only [List.getElem?_cons_zero, List.getElem?_cons_succ] at c0 c1
  have y0 := hY.cell 0; have y1 := hY.cell 1; simp only [List.getElem?_cons_zero, List.getElem?_cons_succ] at y0 y1
  clear hX hY hs hr
  go_upto_region 2 with (first | (go_at_call 77; refine (HLV.out _ hsW hrW).mono ?_; rintro e w1 ⟨rfl, hb1⟩))
  obtain ⟨w2, hw2⟩ : ∃ w2, w1.alloc (.cells #[.int .i64 lo, .int .i64 hi] 107) = w2 := ⟨_, rfl⟩
  have hZ : Blk w2 w1.heap.size 107 [.int .i64 lo, .int .i64 hi] := by rw [← hw2]; exact Blk.new w1 _ [_, _]
  have hB2 : Below W.heap.size W w2 := by rw [← hw2]; exact bel_alloc hb1 hb1.size _
  rw [hw2]
  clear hw2
  obtain ⟨g, hg⟩ : ∃ g, w1.heap.size = g := ⟨_, rfl⟩
  rw [hg] at hZ ⊢
  have k2 := (kp hB2).1
  have hgl : W.heap.size ≤ g := by have := hb1.size; omega
  have z0 := hZ.cell 0; have z1 := hZ.cell 1; simp only [List.getElem?_cons_zero, List.getElem?_cons_succ] at z0 z1
  clear hg
  by_cases h1 : t * t ≤ lo
  · have HR : Hid (ansN vals miss k b t = 2) := by show _ = _; rw [HA.out, if_pos h1]
    clear HA
    go_wp2
    go_ret
    exact ⟨by rw [HR.out]; rfl, bel_tr hwW hwW.size hB2⟩
  · by_cases h2 : hi < t * t
    · have HR : Hid (ansN vals miss k b t = 0) := by show _ = _; rw [HA.out, if_neg h1, if_pos h2]
      clear HA
      go_wp2
      go_ret
      exact ⟨by rw [HR.out]; rfl, bel_tr hwW hwW.size hB2⟩
    · have HR : Hid (ansN vals miss k b t = 1) := by show _ = _; rw [HA.out, if_neg h1, if_neg h2]
      clear HA
      go_wp2
      go_ret
      exact ⟨by rw [HR.out]; rfl, bel_tr hwW hwW.size hB2⟩
end Go.Proofs.YthkmeaibppkhmaaDoor
