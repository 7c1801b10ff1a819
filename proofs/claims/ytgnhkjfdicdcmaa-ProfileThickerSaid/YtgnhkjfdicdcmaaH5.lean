/- Contracts: distances. -/
import Derived.Test.YtgnhkjfdicdcmaaH4
namespace Go.Proofs.Ytgnhkjfdicdcmaa
open Go.RowKit
set_option maxRecDepth 100000


/-- The error and the answer of DistanceOf. -/
def disE (a : Int) (l : List G) (b : Int) (m : List G) : Int := firstE [(proE a l).2, (proE b m).2]
def disR (a : Int) (l : List G) (b : Int) (m : List G) : Int := if disE a l b m = 0 then dist a l b m else 0

set_option maxHeartbeats 2000000 in
theorem distanceOf_c (a b : Int) (A B : Option Addr) (c d : Nat) (l m : List G) (w : World) (hr : Rd w A (gs l)) (hs : Rd w B (gs m)) (hll : l.length ≤ 1000) (hml : m.length ≤ 1000) :
    Calls Try.prog 36 #[.agg #[.int .i64 a, .slice A l.length c], .agg #[.int .i64 b, .slice B m.length d]] w fun r w' => r = .returned (.tuple #[.int .i64 (disR a l b m), .int .i64 (disE a l b m)]) ∧ Below w.heap.size w w' := by
  have HE1 := hide (fun W h => profileError_c a A c l W h hll)
  have HE2 := hide (fun W h => profileError_c b B d m W h hml)
  have HD : Hid (disE a l b m = firstE [(proE a l).2, (proE b m).2]) := rfl
  have HR : Hid (disR a l b m = if disE a l b m = 0 then dist a l b m else 0) := rfl
  have HP := hide (fun (h : firstE [(proE a l).2, (proE b m).2] = 0) => (⟨proE_zero (firstE_cons_zero.1 h).1, proE_zero (firstE_cons_zero.1 (firstE_cons_zero.1 h).2).1⟩ : Pro a l ∧ Pro b m))
  generalize (proE a l).2 = E1 at HE1 HD HP
  generalize (proE b m).2 = E2 at HE2 HD HP
  obtain ⟨W0, hW0⟩ : ∃ W0, (w.alloc (.cells #[.int .i64 a, .slice A l.length c] 24)).alloc (.cells #[.int .i64 b, .slice B m.length d] 24) = W0 := ⟨_, rfl⟩
  obtain ⟨p, hp⟩ : ∃ p, w.heap.size = p := ⟨_, rfl⟩
  have hX0 : Blk W0 p 24 [.int .i64 a, .slice A l.length c] := by rw [← hW0, ← hp]; exact (two_new w _ _ [_, _] [_, _]).1
  have hY0 : Blk W0 (p + 1) 24 [.int .i64 b, .slice B m.length d] := by rw [← hW0, ← hp]; exact (two_new w _ _ [_, _] [_, _]).2.1
  have hB0 : Below p w W0 := by rw [← hW0, ← hp]; exact (two_new w _ _ [_, _] [_, _]).2.2
  have hr0 := hr.bel (by rw [hp]; exact hB0)
  have hs0 := hs.bel (by rw [hp]; exact hB0)
  have HW := hide hW0
  have zp := hY0.lt
  have zq := hX0.lt
  clear hW0 hr hs
  have c0 := hX0.cell 0; have c1 := hX0.cell 1; simp only [List.getElem?_cons_zero, List.getElem?_cons_succ] at c0 c1
  have y0 := hY0.cell 0; have y1 := hY0.cell 1; simp only [List.getElem?_cons_zero, List.getElem?_cons_succ] at y0 y1
  go_enter Try.func36, Try.ntmps36
  go_upto_region 1 with fail
  rw [HW.out]
  go_cut [6] from 9 to 14 (fun t wx => t = .int .i64 (firstE [E1, E2]) ∧ Below W0.heap.size W0 wx)
  case first =>
    go_region_held3 (fun w' => (∀ b o, b < W0.heap.size → w'.cell? ⟨b, o, none⟩ = W0.cell? ⟨b, o, none⟩) ∧ Below W0.heap.size W0 w')
      ((refine kp ?_; (repeat' (first | with_reducible exact Below.refl _ _ | with_reducible exact HB3.out | with_reducible exact HB2.out | with_reducible exact HB1.out | with_reducible refine Below.drew ?_ | with_reducible refine bel_alloc ?_ ?_ _)); all_goals (first | omega | (simp <;> omega))))
      (first
        | (go_at_call 76; with_reducible refine (HE1.out _ ?_).mono ?_; exact hr0.bel (by (repeat' (first | with_reducible exact Below.refl _ _ | with_reducible exact HB3.out | with_reducible exact HB2.out | with_reducible exact HB1.out | with_reducible refine Below.drew ?_ | with_reducible refine bel_alloc ?_ ?_ _)); all_goals (first | omega | (simp <;> omega))); rintro e w1 ⟨rfl, hb1⟩; have HB1 : Hid (Below W0.heap.size W0 w1) := (by refine hide (Below.trans ?_ (hb1.mono ?_)); (repeat' (first | with_reducible exact Below.refl _ _ | with_reducible exact HB3.out | with_reducible exact HB2.out | with_reducible exact HB1.out | with_reducible refine Below.drew ?_ | with_reducible refine bel_alloc ?_ ?_ _)); all_goals (first | omega | (simp <;> omega))); have s1 := HB1.out.size)
        | (go_at_call 76; with_reducible refine (HE2.out _ ?_).mono ?_; exact hs0.bel (by (repeat' (first | with_reducible exact Below.refl _ _ | with_reducible exact HB3.out | with_reducible exact HB2.out | with_reducible exact HB1.out | with_reducible refine Below.drew ?_ | with_reducible refine bel_alloc ?_ ?_ _)); all_goals (first | omega | (simp <;> omega))); rintro e w2 ⟨rfl, hb2⟩; have HB2 : Hid (Below W0.heap.size W0 w2) := (by refine hide (Below.trans ?_ (hb2.mono ?_)); (repeat' (first | with_reducible exact Below.refl _ _ | with_reducible exact HB3.out | with_reducible exact HB2.out | with_reducible exact HB1.out | with_reducible refine Below.drew ?_ | with_reducible refine bel_alloc ?_ ?_ _)); all_goals (first | omega | (simp <;> omega))); have s2 := HB2.out.size)
        | (go_at_call 70; refine (firstError_2D _ _ _).mono ?_; rintro e_ w_ ⟨rfl, rfl⟩)
        | (go_at_call 70; refine (firstError_2 _ _ _).mono ?_; rintro e_ w_ ⟨rfl, rfl⟩))
    all_goals go_wp2
    all_goals go_meet
    all_goals (refine ⟨rfl, ?_⟩; (repeat' (first | with_reducible exact Below.refl _ _ | with_reducible exact HB3.out | with_reducible exact HB2.out | with_reducible exact HB1.out | with_reducible refine Below.drew ?_ | with_reducible refine bel_alloc ?_ ?_ _)); all_goals (first | omega | (simp <;> omega)))
  obtain ⟨rfl, hBc⟩ := hcut
  clear c0 c1 y0 y1
  have hXc := hX0.bel hBc
  have hYc := hY0.bel hBc
  have hrc := hr0.bel hBc
  have hsc := hs0.bel hBc
  have hB1 := bel_tr hB0 (by omega) hBc
  have zc := hYc.lt
  have zd := hXc.lt
  have c0 := hXc.cell 0; have c1 := hXc.cell 1; simp only [List.getElem?_cons_zero, List.getElem?_cons_succ] at c0 c1
  have y0 := hYc.cell 0; have y1 := hYc.cell 1; simp only [List.getElem?_cons_zero, List.getElem?_cons_succ] at y0 y1
  by_cases he : firstE [E1, E2] = 0
  · have e1 : (firstE [E1, E2] != 0) = false := by simpa using he
    obtain ⟨hl, hm⟩ := HP.out he
    have hS := hl.slabs
    have hT := hm.slabs
    have hn1 := hl.n1
    have hn2 := hm.n1
    have hlb := hl.b1
    have hmb := hm.b1
    have hl0 := hl.b0
    have hm0 := hm.b0
    have HRD : Hid (disR a l b m = dst (plasma a l) (plasma b m) (distN a l b m)) := by show _ = _; rw [HR.out, HD.out, if_pos he]; rfl
    have HED : Hid (disE a l b m = 0) := by show _ = _; rw [HD.out, he]
    have hbp : ∀ h, 0 ≤ plasma a l h ∧ plasma a l h ≤ 9000000 := fun h => plasma_bd fun g hg => ⟨(hl.all g hg).1, (hl.all g hg).2.1⟩
    have hbq : ∀ h, 0 ≤ plasma b m h ∧ plasma b m h ≤ 9000000 := fun h => plasma_bd fun g hg => ⟨(hm.all g hg).1, (hm.all g hg).2.1⟩
    have HBD := hide (fun n => dst_bd hbp hbq n)
    have HBP := hide hbp
    have HBQ := hide hbq
    have HT1 := hide (fun W h => topOf_c a A c l W h hS)
    have HT2 := hide (fun W h => topOf_c b B d m W h hT)
    have hg1 := hgt_bd hS (Nat.le_refl l.length)
    have hg2 := hgt_bd hT (Nat.le_refl m.length)
    have HL := hide (fun n W h => plasmaAt_c a n A c l W h hS)
    have HM := hide (fun n W h => plasmaAt_c b n B d m W h hT)
    have hN : ((distN a l b m : Nat) : Int) = if hgt a l l.length < hgt b m m.length then hgt b m m.length else hgt a l l.length := by unfold distN; split <;> omega
    generalize distN a l b m = N at HRD hN
    generalize hgt a l l.length = X1 at HT1 hg1 hN
    generalize hgt b m m.length = X2 at HT2 hg2 hN
    have hN6 : N ≤ 6500 := by
      have : (N : Int) ≤ 6500 := by rw [hN]; split <;> omega
      omega
    have HN := hide hN
    clear hbp hbq hl hm hS hT HP HR HD HE1 HE2 he hN
    go_upto_region 5 with fail
    go_cut [22, 23] from 18 to 23 (fun t u wx => t = .int .i64 N ∧ u = .int .i64 0 ∧ Below wc.heap.size wc wx)
    case first =>
      go_region_held3 (fun w' => (∀ b o, b < wc.heap.size → w'.cell? ⟨b, o, none⟩ = wc.cell? ⟨b, o, none⟩) ∧ Below wc.heap.size wc w')
        ((refine kp ?_; (repeat' (first | with_reducible exact Below.refl _ _ | with_reducible exact HB3.out | with_reducible exact HB2.out | with_reducible exact HB1.out | with_reducible refine Below.drew ?_ | with_reducible refine bel_alloc ?_ ?_ _)); all_goals (first | omega | (simp <;> omega))))
        (first
          | (go_at_call 80; with_reducible refine (HT1.out _ ?_).mono ?_; exact hrc.bel (by (repeat' (first | with_reducible exact Below.refl _ _ | with_reducible exact HB3.out | with_reducible exact HB2.out | with_reducible exact HB1.out | with_reducible refine Below.drew ?_ | with_reducible refine bel_alloc ?_ ?_ _)); all_goals (first | omega | (simp <;> omega))); rintro e w1 ⟨rfl, hb1⟩; have HB1 : Hid (Below wc.heap.size wc w1) := (by refine hide (Below.trans ?_ (hb1.mono ?_)); (repeat' (first | with_reducible exact Below.refl _ _ | with_reducible exact HB3.out | with_reducible exact HB2.out | with_reducible exact HB1.out | with_reducible refine Below.drew ?_ | with_reducible refine bel_alloc ?_ ?_ _)); all_goals (first | omega | (simp <;> omega))); have s1 := HB1.out.size)
          | (go_at_call 80; with_reducible refine (HT2.out _ ?_).mono ?_; exact hsc.bel (by (repeat' (first | with_reducible exact Below.refl _ _ | with_reducible exact HB3.out | with_reducible exact HB2.out | with_reducible exact HB1.out | with_reducible refine Below.drew ?_ | with_reducible refine bel_alloc ?_ ?_ _)); all_goals (first | omega | (simp <;> omega))); rintro e w2 ⟨rfl, hb2⟩; have HB2 : Hid (Below wc.heap.size wc w2) := (by refine hide (Below.trans ?_ (hb2.mono ?_)); (repeat' (first | with_reducible exact Below.refl _ _ | with_reducible exact HB3.out | with_reducible exact HB2.out | with_reducible exact HB1.out | with_reducible refine Below.drew ?_ | with_reducible refine bel_alloc ?_ ?_ _)); all_goals (first | omega | (simp <;> omega))); have s2 := HB2.out.size))
      all_goals go_wp2
      all_goals go_meet
      all_goals (refine ⟨by rw [HN.out]; congr 1; split <;> omega, rfl, ?_⟩; (repeat' (first | with_reducible exact Below.refl _ _ | with_reducible exact HB3.out | with_reducible exact HB2.out | with_reducible exact HB1.out | with_reducible refine Below.drew ?_ | with_reducible refine bel_alloc ?_ ?_ _)); all_goals (first | omega | (simp <;> omega)))
    obtain ⟨rfl, rfl, hBt⟩ := hcut
    clear c0 c1 y0 y1
    have hXt := hXc.bel hBt
    have hYt := hYc.bel hBt
    have hrt := hrc.bel hBt
    have hst := hsc.bel hBt
    have hB2 := bel_tr hB1 (by have := hB1.size; omega) hBt
    clear hXc hYc hrc hsc hBt hX0 hY0 hr0 hs0
    go_wp2
    go_loopw [7, 23] (fun s i wr => ∃ n : Nat, n ≤ N ∧ s = .int .i64 (dst (plasma a l) (plasma b m) n) ∧ i = .int .i64 n ∧ Below wc.heap.size wc wr) (fun _ i _ => N - (intOf i).toNat)
    case atStart => exact ⟨0, Nat.zero_le _, rfl, rfl, Below.refl _ _⟩
    case round =>
      obtain ⟨n, hn, rfl, rfl, hb⟩ := hrel
      by_cases hlt : n < N
      · have hXr := hXt.bel hb
        have hYr := hYt.bel hb
        have hrr := hrt.bel hb
        have hsr := hst.bel hb
        have H1 := hide (fun W h => HL.out n W h)
        have H2 := hide (fun W h => HM.out n W h)
        have hd := HBD.out n
        have h3 := HBP.out n
        have h4 := HBQ.out n
        have HX : Hid (dst (plasma a l) (plasma b m) (n + 1) = dst (plasma a l) (plasma b m) n + absI (plasma a l n - plasma b m n)) := rfl
        generalize dst (plasma a l) (plasma b m) n = D at hd HX ⊢
        generalize plasma a l n = P at H1 h3 HX
        generalize plasma b m n = Q at H2 h4 HX
        have HZ := hide (fun W => sizeOf_c (P - Q) W (by omega) (by omega))
        have hz : 0 ≤ absI (P - Q) ∧ absI (P - Q) ≤ 9000000 := by unfold absI; omega
        rw [show max (P - Q) (-(P - Q)) = absI (P - Q) from rfl] at HZ
        have u1 : IntKind.i64.wrap (P - Q) = P - Q := by simp (disch := omega) only [IntWalk.i64_in]
        generalize absI (P - Q) = Z at HZ hz HX
        have u2 : IntKind.i64.wrap (D + Z) = D + Z := by simp (disch := omega) only [IntWalk.i64_in]
        have c0 := hXr.cell 0; have c1 := hXr.cell 1; simp only [List.getElem?_cons_zero, List.getElem?_cons_succ] at c0 c1
        have y0 := hYr.cell 0; have y1 := hYr.cell 1; simp only [List.getElem?_cons_zero, List.getElem?_cons_succ] at y0 y1
        have z1 := hYr.lt
        have z2 := hXr.lt
        go_upto_region 8 with fail
        go_region_held3 (fun w' => (∀ b o, b < wr.heap.size → w'.cell? ⟨b, o, none⟩ = wr.cell? ⟨b, o, none⟩) ∧ Below wr.heap.size wr w')
          ((refine kp ?_; (repeat' (first | with_reducible exact Below.refl _ _ | with_reducible exact HB3.out | with_reducible exact HB2.out | with_reducible exact HB1.out | with_reducible refine Below.drew ?_ | with_reducible refine bel_alloc ?_ ?_ _)); all_goals (first | omega | (simp <;> omega))))
          (first
            | (go_at_call 81; with_reducible refine (HZ.out _).mono ?_; rintro e_ w_ ⟨rfl, rfl⟩)
            | (go_at_call 77; with_reducible refine (H1.out _ ?_).mono ?_; exact hrr.bel (by (repeat' (first | with_reducible exact Below.refl _ _ | with_reducible exact HB3.out | with_reducible exact HB2.out | with_reducible exact HB1.out | with_reducible refine Below.drew ?_ | with_reducible refine bel_alloc ?_ ?_ _)); all_goals (first | omega | (simp <;> omega))); rintro e w1 ⟨rfl, hb1⟩; have HB1 : Hid (Below wr.heap.size wr w1) := (by refine hide (Below.trans ?_ (hb1.mono ?_)); (repeat' (first | with_reducible exact Below.refl _ _ | with_reducible exact HB3.out | with_reducible exact HB2.out | with_reducible exact HB1.out | with_reducible refine Below.drew ?_ | with_reducible refine bel_alloc ?_ ?_ _)); all_goals (first | omega | (simp <;> omega))); have s1 := HB1.out.size)
            | (go_at_call 77; with_reducible refine (H2.out _ ?_).mono ?_; exact hsr.bel (by (repeat' (first | with_reducible exact Below.refl _ _ | with_reducible exact HB3.out | with_reducible exact HB2.out | with_reducible exact HB1.out | with_reducible refine Below.drew ?_ | with_reducible refine bel_alloc ?_ ?_ _)); all_goals (first | omega | (simp <;> omega))); rintro e w2 ⟨rfl, hb2⟩; have HB2 : Hid (Below wr.heap.size wr w2) := (by refine hide (Below.trans ?_ (hb2.mono ?_)); (repeat' (first | with_reducible exact Below.refl _ _ | with_reducible exact HB3.out | with_reducible exact HB2.out | with_reducible exact HB1.out | with_reducible refine Below.drew ?_ | with_reducible refine bel_alloc ?_ ?_ _)); all_goals (first | omega | (simp <;> omega))); have s2 := HB2.out.size))
        all_goals (
          go_wp2
          go_roundw
          case rel => exact ⟨n + 1, by omega, by rw [HX.out], by go_num, tr hb (by first | exact HB1.out | exact HB2.out) hb.size⟩
          case measure => simp [intOf]; omega)
      · obtain rfl : n = N := by omega
        obtain ⟨D, hD⟩ : ∃ D, dst (plasma a l) (plasma b m) n = D := ⟨_, rfl⟩
        rw [hD] at HRD ⊢
        clear hD
        go_wp2
        go_ret2
        exact ⟨by rw [HRD.out, HED.out]; rfl, by rw [hp]; exact bel_tr hB2 (by have := hB2.size; omega) hb⟩
  · have e1 : (firstE [E1, E2] != 0) = true := by simpa using he
    have HRD : Hid (disR a l b m = 0) := by show _ = _; rw [HR.out, HD.out, if_neg he]
    clear HP HR he
    generalize firstE [E1, E2] = F at e1 HD ⊢
    go_wp2
    go_ret2
    exact ⟨by rw [HRD.out, HD.out]; rfl, by rw [hp]; exact hB1⟩
end Go.Proofs.Ytgnhkjfdicdcmaa
