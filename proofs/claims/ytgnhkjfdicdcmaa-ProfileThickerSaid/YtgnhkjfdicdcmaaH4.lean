/- Contracts: distances of the reference; tops. -/
import Derived.Test.YtgnhkjfdicdcmaaH3
namespace Go.Proofs.Ytgnhkjfdicdcmaa
open Go.RowKit
set_option maxRecDepth 100000


theorem topOf_c (base : Int) (A : Option Addr) (c : Nat) (l : List G) (w : World) (hr : Rd w A (gs l)) (hS : Slabs base l) :
    Calls Try.prog 80 #[.agg #[.int .i64 base, .slice A l.length c]] w fun r w' => r = .returned (.int .i64 (hgt base l l.length)) ∧ Below w.heap.size w w' := by
  have hn := hS.n1
  have hb0 := hS.b0
  have hb1 := hS.b1
  have HH := hide (fun k h => hgt_bd hS (k := k) h)
  have HG := hide (fun k h => hS.at (k := k) h)
  obtain ⟨W0, hW0⟩ : ∃ W0, w.alloc (.cells #[.int .i64 base, .slice A l.length c] 24) = W0 := ⟨_, rfl⟩
  have hX0 : Blk W0 w.heap.size 24 [.int .i64 base, .slice A l.length c] := by rw [← hW0]; exact Blk.new w _ [_, _]
  have hB0 : Below w.heap.size w W0 := by rw [← hW0]; exact alloc_bel w _
  have hr0 := hr.bel hB0
  have HW := hide hW0
  clear hW0 hr
  have c0 := hX0.cell 0; have c1 := hX0.cell 1; simp only [List.getElem?_cons_zero, List.getElem?_cons_succ] at c0 c1
  have z0 := hX0.lt
  go_enter Try.func80, Try.ntmps80
  go_upto_region 1 with fail
  rw [HW.out]
  go_wp2
  clear c0 c1
  go_loopw [3, 11] (fun x i wr => ∃ k : Nat, k ≤ l.length ∧ x = .int .i64 (hgt base l k) ∧ i = .int .i64 k ∧ Below W0.heap.size W0 wr) (fun _ i _ => l.length - (intOf i).toNat)
  case atStart => exact ⟨0, Nat.zero_le _, rfl, rfl, Below.refl _ _⟩
  case round =>
    obtain ⟨k, hk, rfl, rfl, hb⟩ := hrel
    by_cases hlt : k < l.length
    · obtain ⟨b, off, rfl, hblt, hc0, hc1⟩ := (hr0.bel hb).g_at hlt
      have h1 := HH.out k hk
      have HX : Hid (hgt base l (k + 1) = hgt base l k + (l.getD k G0).2) := rfl
      have hg := HG.out k hlt
      rw [getD_at hlt] at HX hg
      generalize l[k].1 = sq at hc0 hg
      generalize l[k].2 = t at hc1 hg HX
      generalize hgt base l k = H at HX h1 ⊢
      go_wp2
      go_roundw
      case rel => exact ⟨k + 1, by omega, by rw [HX.out], by go_num, bel_alloc hb hb.size _⟩
      case measure => simp [intOf]; omega
    · obtain rfl : k = l.length := by omega
      go_wp2
      go_ret
      exact ⟨rfl, bel_tr hB0 (by omega) hb⟩

set_option maxHeartbeats 2000000 in
theorem refDistance_c (a b : Int) (A B : Option Addr) (c d : Nat) (l m : List G) (w : World) (hr : Rd w A (gs l)) (hs : Rd w B (gs m)) (hl : Pro a l) (hm : Pro b m) :
    Calls Try.prog 37 #[.agg #[.int .i64 a, .slice A l.length c], .agg #[.int .i64 b, .slice B m.length d]] w fun r w' => r = .returned (.int .i64 (dst (plasma a l) (plasma b m) 6501)) ∧ Below w.heap.size w w' := by
  have hbp : ∀ h, 0 ≤ plasma a l h ∧ plasma a l h ≤ 9000000 := fun h => plasma_bd fun g hg => ⟨(hl.all g hg).1, (hl.all g hg).2.1⟩
  have hbq : ∀ h, 0 ≤ plasma b m h ∧ plasma b m h ≤ 9000000 := fun h => plasma_bd fun g hg => ⟨(hm.all g hg).1, (hm.all g hg).2.1⟩
  have HBD := hide (fun n => dst_bd hbp hbq n)
  have HBP := hide hbp
  have HBQ := hide hbq
  clear hbp hbq
  obtain ⟨W0, hW0⟩ : ∃ W0, (w.alloc (.cells #[.int .i64 a, .slice A l.length c] 24)).alloc (.cells #[.int .i64 b, .slice B m.length d] 24) = W0 := ⟨_, rfl⟩
  obtain ⟨p, hp⟩ : ∃ p, w.heap.size = p := ⟨_, rfl⟩
  have hX0 : Blk W0 p 24 [.int .i64 a, .slice A l.length c] := by rw [← hW0, ← hp]; exact (two_new w _ _ [_, _] [_, _]).1
  have hY0 : Blk W0 (p + 1) 24 [.int .i64 b, .slice B m.length d] := by rw [← hW0, ← hp]; exact (two_new w _ _ [_, _] [_, _]).2.1
  have hB0 : Below p w W0 := by rw [← hW0, ← hp]; exact (two_new w _ _ [_, _] [_, _]).2.2
  have hr0 := hr.bel (by rw [hp]; exact hB0)
  have hs0 := hs.bel (by rw [hp]; exact hB0)
  have HW := hide hW0
  have zp := hY0.lt
  clear hW0 hr hs
  have HL := hide (fun n W h (h0 : (0 : Int) ≤ n) (h1 : n ≤ 10000) => refPlasma_c a n A c l W h hl.slabs h0 h1)
  have HM := hide (fun n W h (h0 : (0 : Int) ≤ n) (h1 : n ≤ 10000) => refPlasma_c b n B d m W h hm.slabs h0 h1)
  clear hl hm
  go_enter Try.func37, Try.ntmps37
  go_upto_region 1 with fail
  rw [HW.out]
  go_wp2
  go_loopw [5, 6] (fun s i wr => ∃ n : Nat, n ≤ 6501 ∧ s = .int .i64 (dst (plasma a l) (plasma b m) n) ∧ i = .int .i64 n ∧ Below W0.heap.size W0 wr) (fun _ i _ => 6502 - (intOf i).toNat)
  case atStart => exact ⟨0, by omega, rfl, rfl, Below.refl _ _⟩
  case round =>
    obtain ⟨n, hn, rfl, rfl, hb⟩ := hrel
    by_cases hlt : n ≤ 6500
    · have hXr := hX0.bel hb
      have hYr := hY0.bel hb
      have hrr := hr0.bel hb
      have hsr := hs0.bel hb
      have H1 := hide (fun W h => HL.out n W h (by omega) (by omega))
      have H2 := hide (fun W h => HM.out n W h (by omega) (by omega))
      have hd := HBD.out n
      have h3 := HBP.out n
      have h4 := HBQ.out n
      have HX : Hid (dst (plasma a l) (plasma b m) (n + 1) = dst (plasma a l) (plasma b m) n + absI (plasma a l n - plasma b m n)) := rfl
      generalize dst (plasma a l) (plasma b m) n = D at hd HX ⊢
      generalize plasma a l n = P at H1 h3 HX
      generalize plasma b m n = Q at H2 h4 HX
      have HZ := hide (fun W => size_c (P - Q) W (by omega) (by omega))
      have hz : 0 ≤ absI (P - Q) ∧ absI (P - Q) ≤ 9000000 := by unfold absI; omega
      rw [show max (P - Q) (-(P - Q)) = absI (P - Q) from rfl] at HZ
      have u1 : IntKind.i64.wrap (P - Q) = P - Q := by simp (disch := omega) only [IntWalk.i64_in]
      generalize absI (P - Q) = Z at HZ hz HX
      have u2 : IntKind.i64.wrap (D + Z) = D + Z := by simp (disch := omega) only [IntWalk.i64_in]
      have c0 := hXr.cell 0; have c1 := hXr.cell 1; simp only [List.getElem?_cons_zero, List.getElem?_cons_succ] at c0 c1
      have y0 := hYr.cell 0; have y1 := hYr.cell 1; simp only [List.getElem?_cons_zero, List.getElem?_cons_succ] at y0 y1
      have z1 := hYr.lt
      have z2 := hXr.lt
      have en : decide ((n : Int) ≤ 6500) = true := decide_eq_true (by omega)
      go_upto_region 5 with fail
      go_region_held3 (fun w' => (∀ b o, b < wr.heap.size → w'.cell? ⟨b, o, none⟩ = wr.cell? ⟨b, o, none⟩) ∧ Below wr.heap.size wr w')
        ((refine kp ?_; (repeat' (first | with_reducible exact Below.refl _ _ | with_reducible exact HB2.out | with_reducible exact HB1.out | with_reducible refine Below.drew ?_ | with_reducible refine bel_alloc ?_ ?_ _)); all_goals (first | omega | (simp <;> omega))))
        (first
          | (go_at_call 82; with_reducible refine (HZ.out _).mono ?_; rintro e_ w_ ⟨rfl, rfl⟩)
          | (go_at_call 24; with_reducible refine (H1.out _ ?_).mono ?_; exact hrr.bel (by (repeat' (first | with_reducible exact Below.refl _ _ | with_reducible exact HB2.out | with_reducible exact HB1.out | with_reducible refine Below.drew ?_ | with_reducible refine bel_alloc ?_ ?_ _)); all_goals (first | omega | (simp <;> omega))); rintro e w1 ⟨rfl, hb1⟩; have HB1 : Hid (Below wr.heap.size wr w1) := (by refine hide (Below.trans ?_ (hb1.mono ?_)); (repeat' (first | with_reducible exact Below.refl _ _ | with_reducible exact HB2.out | with_reducible exact HB1.out | with_reducible refine Below.drew ?_ | with_reducible refine bel_alloc ?_ ?_ _)); all_goals (first | omega | (simp <;> omega))); have s1 := HB1.out.size)
          | (go_at_call 24; with_reducible refine (H2.out _ ?_).mono ?_; exact hsr.bel (by (repeat' (first | with_reducible exact Below.refl _ _ | with_reducible exact HB2.out | with_reducible exact HB1.out | with_reducible refine Below.drew ?_ | with_reducible refine bel_alloc ?_ ?_ _)); all_goals (first | omega | (simp <;> omega))); rintro e w2 ⟨rfl, hb2⟩; have HB2 : Hid (Below wr.heap.size wr w2) := (by refine hide (Below.trans ?_ (hb2.mono ?_)); (repeat' (first | with_reducible exact Below.refl _ _ | with_reducible exact HB2.out | with_reducible exact HB1.out | with_reducible refine Below.drew ?_ | with_reducible refine bel_alloc ?_ ?_ _)); all_goals (first | omega | (simp <;> omega))); have s2 := HB2.out.size))
      all_goals (
        go_wp2
        go_roundw
        case rel => exact ⟨n + 1, by omega, by rw [HX.out], by go_num, tr hb (by first | exact HB1.out | exact HB2.out) hb.size⟩
        case measure => simp [intOf]; omega)
    · obtain rfl : n = 6501 := by omega
      obtain ⟨D, hD⟩ : ∃ D, dst (plasma a l) (plasma b m) 6501 = D := ⟨_, rfl⟩
      have HD := hide hD
      rw [hD]
      clear hD
      go_wp2
      go_ret
      exact ⟨by rw [HD.out]; rfl, by rw [hp]; exact bel_tr hB0 (by omega) hb⟩
end Go.Proofs.Ytgnhkjfdicdcmaa
