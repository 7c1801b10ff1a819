/- Contracts: the answer of a line at a lag (the program's), the level and the answer that are asked for. -/
import Derived.Test.YthkmeaibppkhmaaDoorV2
import Derived.Test.YthkmeaibppkhmaaDoorV4
import Derived.Test.YthkmeaibppkhmaaDoorR11
namespace Go.Proofs.YthkmeaibppkhmaaDoor
open Go.RowKit
set_option maxRecDepth 100000

set_option maxHeartbeats 1000000 in
theorem answer_c (V M : Option Addr) (q1 q2 : Nat) (vals : List (Int × Int)) (miss : List Int) (k : Nat) (b t : Int) (w : World) (hs : Rd w V (gs vals)) (hr : Rd w M (ints miss)) (hok : okAt vals miss k) (hb1 : 0 ≤ b) (hb2 : b ≤ 2000000) (ht1 : 0 ≤ t) (ht2 : t ≤ 1000000000) :
    Calls Tryd.prog 125 #[.agg #[.slice V vals.length q1, .slice M miss.length q2], .int .i64 k, .agg #[.int .i64 b, .int .i64 t]] w fun r w' => r = .returned (.int .i64 (ansN vals miss k b t)) ∧ Below w.heap.size w w' := by
  have HLV := hide (fun W h1 h2 => level_c V M q1 q2 vals miss k b W h1 h2 hok hb1 hb2)
  have HA : Hid (ansN vals miss k b t = if t * t ≤ lvLo vals miss k b then 2 else if lvHi vals miss k b < t * t then 0 else 1) := rfl
  generalize lvLo vals miss k b = lo at HLV HA
  generalize lvHi vals miss k b = hi at HLV HA
  have ht := sqv_bd (x := t) (m := 1000000000) (by omega) (by omega)
  have wt : IntKind.i64.wrap (t * t) = t * t := by simp (disch := omega) only [IntWalk.i64_in]
  go_enter Tryd.func125, Tryd.ntmps125
  go_upto_region 1 with fail
  obtain ⟨W, hW⟩ : ∃ W, (w.alloc (.cells #[.slice V vals.length q1, .slice M miss.length q2] 89)).alloc (.cells #[.int .i64 b, .int .i64 t] 105) = W := ⟨_, rfl⟩
  have hwW : Below w.heap.size w W := by rw [← hW]; exact (alloc_bel _ _).alloc (by simp) _
  have hX : Blk W w.heap.size 89 [.slice V vals.length q1, .slice M miss.length q2] := by rw [← hW]; exact (Blk.new w _ [_, _]).bel (alloc_bel _ _)
  have hY : Blk W (w.heap.size + 1) 105 [.int .i64 b, .int .i64 t] := by rw [← hW]; exact Blk.two w 89 105 [.slice V vals.length q1, .slice M miss.length q2] [.int .i64 b, .int .i64 t]
  rw [hW]
  clear hW
  obtain ⟨y, hy⟩ : ∃ y, w.heap.size + 1 = y := ⟨_, rfl⟩
  rw [hy] at hY ⊢
  clear hy
  have hsW := hs.bel hwW
  have hrW := hr.bel hwW
  have hxl := hX.lt
  have hyl := hY.lt
  have c0 := hX.cell 0; have c1 := hX.cell 1; simp only [List.getElem?_cons_zero, List.getElem?_cons_succ] at c0 c1
  have y0 := hY.cell 0; have y1 := hY.cell 1; simp only [List.getElem?_cons_zero, List.getElem?_cons_succ] at y0 y1
  clear hX hY hs hr
  have hN := Blk.new W 107 [.int .i64 0, .int .i64 0]
  have hAl : Below W.heap.size W (W.alloc (.cells #[.int .i64 0, .int .i64 0] 107)).drew := (alloc_bel W _).drew
  have hAs : W.heap.size ≤ (W.alloc (.cells #[.int .i64 0, .int .i64 0] 107)).drew.heap.size := hAl.size
  go_cut [7, 8] from 9 to 18 (fun t7 t8 wx => ∃ g : Nat, t7 = .pointer (some ⟨g, 0, none⟩) ∧ t8 = .int .i64 (t * t) ∧ Blk wx g 107 [.int .i64 lo, .int .i64 hi] ∧ Below W.heap.size W wx)
  case first =>
    go_region_held3 (fun w' => (∀ b o, b < W.heap.size → w'.cell? ⟨b, o, none⟩ = W.cell? ⟨b, o, none⟩) ∧ Below W.heap.size W w')
      (first | with_reducible exact kp_refl W | with_reducible exact kp hAl | with_reducible exact kp HB1.out | with_reducible exact kp (bel_alloc HB1.out HB1.out.size _) | with_reducible exact kp ((HB1.out.setCell (p := ⟨W.heap.size, 0, none⟩) (Nat.le_refl _) _).setCell (p := ⟨W.heap.size, 1, none⟩) (Nat.le_refl _) _))
      (first
        | (go_at_call 123; refine (HLV.out _ (hsW.bel hAl) (hrW.bel hAl)).mono ?_; rintro e w1 ⟨rfl, hb1⟩; have HB1 := hide (bel_tr hAl hAs hb1); have hG1 : Blk w1 W.heap.size 107 [.int .i64 0, .int .i64 0] := (show Blk (W.alloc (.cells #[.int .i64 0, .int .i64 0] 107)).drew W.heap.size 107 [.int .i64 0, .int .i64 0] from hN).bel hb1; have z0 := hG1.cell 0; have z1 := hG1.cell 1; simp only [List.getElem?_cons_zero, List.getElem?_cons_succ] at z0 z1; have f0 := hG1.frozen 0; have f1 := hG1.frozen 1)
        | (go_at_call 123; refine (HLV.out _ (hsW.drewN 1) (hrW.drewN 1)).mono ?_; rintro e w1 ⟨rfl, hb1⟩; have HB1 := hide (bel_tr ((Below.refl W.heap.size W).drew) (Nat.le_refl _) hb1)))
    · go_wp2
      go_meet
      exact ⟨_, rfl, rfl, Blk.new w1 _ [_, _], bel_alloc HB1.out HB1.out.size _⟩
    · go_wp2
      go_meet
      exact ⟨_, rfl, rfl, hG1.set2 _ _, (HB1.out.setCell (p := ⟨W.heap.size, 0, none⟩) (Nat.le_refl _) _).setCell (p := ⟨W.heap.size, 1, none⟩) (Nat.le_refl _) _⟩
  obtain ⟨g, rfl, rfl, hG2, hB2⟩ := hcut
  have z0 := hG2.cell 0; have z1 := hG2.cell 1; simp only [List.getElem?_cons_zero, List.getElem?_cons_succ] at z0 z1
  clear wt ht hN hAl hAs HLV c0 c1 y0 y1
  generalize t * t = T at HA ⊢
  by_cases h1 : T ≤ lo
  · have HR : Hid (ansN vals miss k b t = 2) := by show _ = _; rw [HA.out, if_pos h1]
    clear HA
    go_wp2
    go_ret
    exact ⟨by rw [HR.out]; rfl, bel_tr hwW hwW.size hB2⟩
  · by_cases h2 : hi < T
    · have HR : Hid (ansN vals miss k b t = 0) := by show _ = _; rw [HA.out, if_neg h1, if_pos h2]
      clear HA
      go_wp2
      go_ret
      exact ⟨by rw [HR.out]; rfl, bel_tr hwW hwW.size hB2⟩
    · have HR : Hid (ansN vals miss k b t = 1) := by show _ = _; rw [HA.out, if_neg h1, if_neg h2]
      clear HA
      go_wp2
      go_ret
      exact ⟨by rw [HR.out]; rfl, bel_tr hwW hwW.size hB2⟩
end Go.Proofs.YthkmeaibppkhmaaDoor
