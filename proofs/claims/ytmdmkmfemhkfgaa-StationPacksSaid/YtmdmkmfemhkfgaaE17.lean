/- The law of clocks. -/
import Derived.Test.YtmdmkmfemhkfgaaE16
set_option linter.unusedSimpArgs false
set_option linter.unusedVariables false
set_option linter.unusedSimpArgs false
set_option linter.unusedVariables false
namespace Go.Proofs.Ytmdmkmfemhkfgaa
open Go.RowKit
set_option maxRecDepth 100000

theorem byE_eq (x : PT) (d t : Int) : byE x d t = if exE x = 0 then firstE [driftE d, tickE t] else exE x := rfl
theorem atR_bad {l : List PT} {d t : Int} (h : offE l d t ≠ 0) : atR l d t = ((0, 0), offE l d t) := by unfold atR; rw [if_neg h]
theorem trueR_bad {l : List PT} {d t : Int} (h : (atR l d t).2 ≠ 0) : trueR l d t = ((0, 0), (atR l d t).2) := by unfold trueR; rw [if_neg h]

set_option maxHeartbeats 4000000 in
theorem clocks_ok (A : Option Addr) (c : Nat) (l : List PT) (drift T : Int) (w : World) (hr : Rd w A (ps l)) (hl : l.length ≤ 22) :
    Calls Try.prog 3 #[.slice A l.length c, .int .i64 drift, .int .i64 T] w fun r w' => r = .returned (.bool true) ∧ Below w.heap.size w w' := by
  have HFEW := hide (fun W => few_c A l.length c W (by omega))
  rw [show decide ((l.length : Int) ≤ 22) = true by simp; omega] at HFEW
  have HCP := hide (fun W h => copyExchanges_c l A c W h (by omega))
  have HOA := hide (fun A' c' W h => offsetAt_c A' c' l drift T W h (by omega))
  have HTA := hide (fun A' c' W h => trueAt_c A' c' l drift T W h (by omega))
  have HCE := hide (fun W h => clockErr_c A c l drift T W h (by omega))
  have HRA := hide (fun W h he => refOffsetAt_c A c l drift T W h (by omega) he)
  have HDE := hide (fun W => driftErr_c drift T W)
  have HBY := hide (fun k (h : k < l.length) => byE_eq l[k] drift T)
  have HD0 : Hid (firstE [driftE drift, tickE T] = 0 → driftE drift = 0 ∧ tickE T = 0) := firstE_2
  have HB1 := hide (atR_bad (l := l) (d := drift) (t := T))
  have HB2 := hide (trueR_bad (l := l) (d := drift) (t := T))
  have HAT : Hid (offE l drift T = 0 → atR l drift T = if (comA (offL l drift T)).2 < (comA (offL l drift T)).1 then ((0, 0), 13) else (comA (offL l drift T), 0)) := fun h => by unfold atR; rw [if_pos h]
  have HTT : Hid ((atR l drift T).2 = 0 → trueR l drift T = ((T + (atR l drift T).1.1, T + (atR l drift T).1.2), 0)) := fun h => by unfold trueR; rw [if_pos h]
  have hbd := atR_bd l drift T
  have HT0 : Hid (offE l drift T = 0 → 0 ≤ T ∧ T ≤ 1000000000000) := fun h => tickE_zero (offE_zero h).t
  generalize firstE [driftE drift, tickE T] = D at HDE HBY HD0
  generalize comA (offL l drift T) = C at HRA HAT
  generalize atR l drift T = at_ at HOA HB1 HB2 HAT HTT hbd
  generalize trueR l drift T = tr_ at HTA HB2 HTT
  generalize offE l drift T = E at HCE HRA HB1 HAT HT0
  obtain ⟨⟨a1, a2⟩, ae⟩ := at_
  obtain ⟨⟨t1, t2⟩, te⟩ := tr_
  dsimp only at HOA HTA HB1 HB2 HAT HTT hbd
  go_enter Try.func3, Try.ntmps3
  go_upto_region 6 with (first
    | (go_at_call 9; refine (awake_c _).mono ?_; rintro e_ w1 ⟨rfl, hb1⟩; have hr1 := hr.bel hb1)
    | (go_at_call 10; refine (HFEW.out _).mono ?_; rintro e_ w_ ⟨rfl, rfl⟩)
    | (go_at_call 12; refine (HCP.out _ hr1).mono ?_; rintro e_ w2 ⟨⟨A2, c2, rfl, hx2⟩, hb2⟩; have hr2 := hr1.bel hb2)
    | (go_at_call 11; refine (HOA.out _ _ _ hx2).mono ?_; rintro e_ w3 ⟨rfl, hb3⟩; have hr3 := hr2.bel hb3))
  obtain ⟨p, hp⟩ : ∃ p, w3.heap.size = p := ⟨_, rfl⟩
  obtain ⟨w4, hw4⟩ : ∃ W, w3.alloc (.cells #[.int .i64 a1, .int .i64 a2] 26) = W := ⟨_, rfl⟩
  have hP4 : Blk w4 p 26 [.int .i64 a1, .int .i64 a2] := by rw [← hw4, ← hp]; exact Blk.new w3 _ [_, _]
  have hb4 : Below w3.heap.size w3 w4 := by rw [← hw4]; exact alloc_bel _ _
  have hB4 : Below w.heap.size w w4 := ((tr hb1 hb2 hb1.size).trans (hb3.mono (by have := hb1.size; have := hb2.size; omega))).trans (hb4.mono (by have := hb1.size; have := hb2.size; have := hb3.size; omega))
  have hr4 := hr3.bel hb4
  rw [hw4, hp]
  clear hw4 hb1 hb2 hb3 hb4 hr1 hr2 hr3 hx2 hp HOA
  go_upto_region 7 with (first
    | (go_at_call 12; refine (HCP.out _ hr4).mono ?_; rintro e_ w5 ⟨⟨A5, c5, rfl, hx5⟩, hb5⟩; have hr5 := hr4.bel hb5)
    | (go_at_call 13; refine (HTA.out _ _ _ hx5).mono ?_; rintro e_ w6 ⟨rfl, hb6⟩; have hr6 := hr5.bel hb6))
  obtain ⟨q, hq⟩ : ∃ q, w6.heap.size = q := ⟨_, rfl⟩
  obtain ⟨w7, hw7⟩ : ∃ W, w6.alloc (.cells #[.int .i64 t1, .int .i64 t2] 26) = W := ⟨_, rfl⟩
  have hQ7 : Blk w7 q 26 [.int .i64 t1, .int .i64 t2] := by rw [← hw7, ← hq]; exact Blk.new w6 _ [_, _]
  have hb47 : Below w4.heap.size w4 w7 := tr hb5 (by rw [← hw7]; exact bel_alloc hb6 hb6.size _) hb5.size
  have hP7 := hP4.bel hb47
  have hr7 := hr4.bel hb47
  have hB7 := bel_tr hB4 hB4.size hb47
  rw [hw7, hq]
  clear hw7 hb5 hb6 hr5 hr6 hx5 hq HTA hb47 hB4 hr4 hP4 HCP HFEW
  go_wp2
  go_loopw [11] (fun x wr => ∃ k : Nat, k ≤ l.length ∧ x = .int .i64 k ∧ Below w7.heap.size w7 wr) (fun x _ => l.length - (intOf x).toNat)
  case atStart => exact ⟨0, Nat.zero_le _, rfl, Below.refl _ _⟩
  case round =>
    obtain ⟨k, hk, rfl, hbr⟩ := hrel
    have hsr := hbr.size
    have hrr := hr7.bel hbr
    have hBr := bel_tr hB7 hB7.size hbr
    by_cases hlt : k < l.length
    · obtain ⟨b, off, rfl, hblt, x0, x1, x2⟩ := hrr.p_at hlt
      have HEX := hide (fun W => exchangeErr_c l[k].1 l[k].2.1 l[k].2.2 W)
      have HCX := hide (fun W => checkExchange_c l[k].1 l[k].2.1 l[k].2.2 W)
      have HOB := hide (fun W => stOffsetBy_c l[k].1 l[k].2.1 l[k].2.2 drift T W)
      have HRO := hide (fun W (h1 : exE (l[k].1, l[k].2.1, l[k].2.2) = 0) (h2 : driftE drift = 0) (h3 : tickE T = 0) => refOffsetBy_c l[k].1 l[k].2.1 l[k].2.2 drift T W h1 h2 h3)
      have HBE := hide (HBY.out k hlt)
      have HBR1 : Hid (byE l[k] drift T = 0 → byR l[k] drift T = (offV l[k] drift T, 0)) := fun h => by unfold byR; rw [if_pos h]
      have HBR2 : Hid (byE l[k] drift T ≠ 0 → byR l[k] drift T = ((0, 0), byE l[k] drift T)) := fun h => by unfold byR; rw [if_neg h]
      rw [show (l[k].1, l[k].2.1, l[k].2.2) = l[k] from rfl] at HEX HCX HOB HRO
      generalize byE l[k] drift T = BE at HBE HBR1 HBR2
      generalize byR l[k] drift T = BR at HOB HBR1 HBR2
      generalize exE l[k] = X at HEX HCX HBE HRO
      by_cases hX : X = 0
      · have hBE : BE = D := by have := HBE.out; rwa [if_pos hX] at this
        subst hX
        have e3 : ((0 : Int) == 0) = true := rfl
        by_cases hD : D = 0
        · have h2 := HD0.out hD
          have hBR : BR = (offV l[k] drift T, 0) := HBR1.out (by rw [hBE, hD])
          have HRO2 : Hid (∀ W, Calls Try.prog 18 #[.agg #[.int .i64 l[k].1, .int .i64 l[k].2.1, .int .i64 l[k].2.2], .int .i64 drift, .int .i64 T] W fun e w' => e = .returned (.agg #[.int .i64 (offV l[k] drift T).1, .int .i64 (offV l[k] drift T).2]) ∧ Below W.heap.size W w') := fun W => HRO.out W rfl h2.1 h2.2
          rw [hBR] at HOB
          subst hD
          clear hBE hBR HBR1 HBR2 HBE HRO h2
          generalize offV l[k] drift T = o at HOB HRO2
          obtain ⟨o1, o2⟩ := o
          dsimp only at HOB HRO2
          go_upto_region 16 with (first
            | (go_at_call 14; refine (HEX.out _).mono ?_; rintro e_ w8 ⟨rfl, hb8⟩; have y0 := (hb8.cell (p := ⟨b, off + k * 3, none⟩) hblt).trans x0; have y1 := (hb8.cell (p := ⟨b, off + k * 3 + 1, none⟩) hblt).trans x1; have y2 := (hb8.cell (p := ⟨b, off + k * 3 + 2, none⟩) hblt).trans x2; have hz8 : b < w8.heap.size := Nat.lt_of_lt_of_le hblt hb8.size)
            | (go_at_call 15; refine (HCX.out _).mono ?_; rintro e_ w9 ⟨rfl, hb9⟩; have z0 := (hb9.cell (p := ⟨b, off + k * 3, none⟩) hz8).trans y0; have z1 := (hb9.cell (p := ⟨b, off + k * 3 + 1, none⟩) hz8).trans y1; have z2 := (hb9.cell (p := ⟨b, off + k * 3 + 2, none⟩) hz8).trans y2)
            | (go_at_call 16; refine (HDE.out _).mono ?_; rintro e_ w_ ⟨rfl, rfl⟩)
            | (go_at_call 17; refine (HOB.out _).mono ?_; rintro e_ w10 ⟨rfl, hb10⟩))
          have hb810 : Below wr.heap.size wr w10 := (tr hb8 hb9 hb8.size).trans (hb10.mono (by have := hb8.size; have := hb9.size; omega))
          obtain ⟨w11, hw11⟩ : ∃ W, w10.alloc (.cells #[.int .i64 o1, .int .i64 o2] 26) = W := ⟨_, rfl⟩
          have hG : Blk w11 w10.heap.size 26 [.int .i64 o1, .int .i64 o2] := by rw [← hw11]; exact Blk.new w10 _ [_, _]
          have hbr11 : Below wr.heap.size wr w11 := by rw [← hw11]; exact bel_alloc hb810 hb810.size _
          have hb11 : Below w7.heap.size w7 w11 := by rw [← hw11]; exact bel_alloc (bel_tr hbr hsr hb810) (by have := hb810.size; omega) _
          rw [hw11]
          have g0 := hG.cell 0; have g1 := hG.cell 1; simp only [List.getElem?_cons_zero, List.getElem?_cons_succ] at g0 g1
          have hzg := hG.lt
          have v0 := (hbr11.cell (p := ⟨b, off + k * 3, none⟩) hblt).trans x0
          have v1 := (hbr11.cell (p := ⟨b, off + k * 3 + 1, none⟩) hblt).trans x1
          have v2 := (hbr11.cell (p := ⟨b, off + k * 3 + 2, none⟩) hblt).trans x2
          have hzb : b < w11.heap.size := by have := hbr11.size; omega
          have i0 : (k : Int) < (l.length : Int) := by omega
          have e1 : ((0 : Int) != 0) = false := rfl
          obtain ⟨G, hG'⟩ : ∃ G, w10.heap.size = G := ⟨_, rfl⟩
          rw [hG'] at g0 g1 hzg ⊢
          clear hw11 x0 x1 x2 y0 y1 y2 z0 z1 z2 hb8 hb9 hb10 HEX HCX HOB hz8 hG hG' hb810 hbr11 hrr
          refine wp_region_held (S := fun w' => w'.cell? ⟨G, 0, none⟩ = some (.int .i64 o1) ∧ w'.cell? ⟨G, 1, none⟩ = some (.int .i64 o2) ∧ w'.cell? ⟨b, off + k * 3, none⟩ = some (.int .i64 l[k].1) ∧ w'.cell? ⟨b, off + k * 3 + 1, none⟩ = some (.int .i64 l[k].2.1) ∧ w'.cell? ⟨b, off + k * 3 + 2, none⟩ = some (.int .i64 l[k].2.2) ∧ Below w7.heap.size w7 w') (by kernel_rfl) ?_
          have hSd : w11.drew.cell? ⟨G, 0, none⟩ = some (.int .i64 o1) ∧ w11.drew.cell? ⟨G, 1, none⟩ = some (.int .i64 o2) ∧ w11.drew.cell? ⟨b, off + k * 3, none⟩ = some (.int .i64 l[k].1) ∧ w11.drew.cell? ⟨b, off + k * 3 + 1, none⟩ = some (.int .i64 l[k].2.1) ∧ w11.drew.cell? ⟨b, off + k * 3 + 2, none⟩ = some (.int .i64 l[k].2.2) ∧ Below w7.heap.size w7 w11.drew := ⟨g0, g1, v0, v1, v2, hb11.drew⟩
          change wpAnyH _ _ _ _ _ _ _ _ w11.drew
          clear g0 g1 v0 v1 v2
          refine wpAnyH_take (i := 0) (v := ?_) rfl (by kernel_rfl) (by kernel_rfl) (by kernel_rfl) (fun _ _ _ h => h) (Or.inl ⟨by kernel_rfl, ?_⟩) (by assumption) ?_
          rotate_left 1
          · (intro w hSw; obtain ⟨hk1, hk2, hk3, hk4, hk5, hk6⟩ := hSw; go_simp <;> with_reducible rfl)
          simp only [Act.put, List.getElem_toArray, List.getElem_cons_zero, List.setIfInBounds_toArray, List.set_cons_zero, List.set_cons_succ]
          refine wpAnyH_take (i := 1) (v := ?_) rfl (by kernel_rfl) (by kernel_rfl) (by kernel_rfl) (fun _ _ _ h => h) (Or.inl ⟨by kernel_rfl, ?_⟩) (by assumption) ?_
          rotate_left 1
          · (intro w hSw; obtain ⟨hk1, hk2, hk3, hk4, hk5, hk6⟩ := hSw; go_simp <;> with_reducible rfl)
          simp only [Act.put, List.getElem_toArray, List.getElem_cons_zero, List.getElem_cons_succ, List.setIfInBounds_toArray, List.set_cons_zero, List.set_cons_succ]
          refine wpAnyH_take (i := 2) (v := ?_) rfl (by kernel_rfl) (by kernel_rfl) (by kernel_rfl) (fun _ _ _ h => h) (Or.inl ⟨by kernel_rfl, ?_⟩) (by assumption) ?_
          rotate_left 1
          · (intro w hSw; obtain ⟨hk1, hk2, hk3, hk4, hk5, hk6⟩ := hSw; go_simp <;> with_reducible rfl)
          simp only [Act.put, List.getElem_toArray, List.getElem_cons_zero, List.getElem_cons_succ, List.setIfInBounds_toArray, List.set_cons_zero, List.set_cons_succ]
          refine wpAnyH_take (i := 3) (v := undef) rfl (by kernel_rfl) (by kernel_rfl) (by kernel_rfl) (fun _ _ _ h => h) (Or.inr ⟨by kernel_rfl, rfl⟩) (by assumption) ?_
          simp only [Act.put, List.getElem_toArray, List.getElem_cons_zero, List.getElem_cons_succ, List.setIfInBounds_toArray, List.set_cons_zero, List.set_cons_succ]
          refine wpAnyH_take (i := 4) (v := undef) rfl (by kernel_rfl) (by kernel_rfl) (by kernel_rfl) (fun _ _ _ h => h) (Or.inr ⟨by kernel_rfl, rfl⟩) (by assumption) ?_
          simp only [Act.put, List.getElem_toArray, List.getElem_cons_zero, List.getElem_cons_succ, List.setIfInBounds_toArray, List.set_cons_zero, List.set_cons_succ]
          refine wpAnyH_take (i := 5) (v := undef) rfl (by kernel_rfl) (by kernel_rfl) (by kernel_rfl) (fun _ _ _ h => h) (Or.inr ⟨by kernel_rfl, rfl⟩) (by assumption) ?_
          simp only [Act.put, List.getElem_toArray, List.getElem_cons_zero, List.getElem_cons_succ, List.setIfInBounds_toArray, List.set_cons_zero, List.set_cons_succ]
          refine wpAnyH_take (i := 6) (v := undef) rfl (by kernel_rfl) (by kernel_rfl) (by kernel_rfl) (fun _ _ _ h => h) (Or.inr ⟨by kernel_rfl, rfl⟩) (by assumption) ?_
          simp only [Act.put, List.getElem_toArray, List.getElem_cons_zero, List.getElem_cons_succ, List.setIfInBounds_toArray, List.set_cons_zero, List.set_cons_succ]
          refine wpAnyH_take (i := 7) (v := undef) rfl (by kernel_rfl) (by kernel_rfl) (by kernel_rfl) (fun _ _ _ h => h) (Or.inr ⟨by kernel_rfl, rfl⟩) (by assumption) ?_
          simp only [Act.put, List.getElem_toArray, List.getElem_cons_zero, List.getElem_cons_succ, List.setIfInBounds_toArray, List.set_cons_zero, List.set_cons_succ]
          refine wpAnyH_take (i := 8) (v := undef) rfl (by kernel_rfl) (by kernel_rfl) (by kernel_rfl) (fun _ _ _ h => h) (Or.inr ⟨by kernel_rfl, rfl⟩) (by assumption) ?_
          simp only [Act.put, List.getElem_toArray, List.getElem_cons_zero, List.getElem_cons_succ, List.setIfInBounds_toArray, List.set_cons_zero, List.set_cons_succ]
          refine wpAnyH_take (i := 9) (v := undef) rfl (by kernel_rfl) (by kernel_rfl) (by kernel_rfl) (fun _ _ _ h => h) (Or.inr ⟨by kernel_rfl, rfl⟩) (by assumption) ?_
          simp only [Act.put, List.getElem_toArray, List.getElem_cons_zero, List.getElem_cons_succ, List.setIfInBounds_toArray, List.set_cons_zero, List.set_cons_succ]
          refine wpAnyH_take (i := 10) (v := undef) rfl (by kernel_rfl) (by kernel_rfl) (by kernel_rfl) (fun _ _ _ h => h) (Or.inr ⟨by kernel_rfl, rfl⟩) (by assumption) ?_
          simp only [Act.put, List.getElem_toArray, List.getElem_cons_zero, List.getElem_cons_succ, List.setIfInBounds_toArray, List.set_cons_zero, List.set_cons_succ]
          refine wpAnyH_take (i := 11) (v := ?_) rfl (by kernel_rfl) (by kernel_rfl) (by kernel_rfl) (fun _ _ _ h => h) (Or.inl ⟨by kernel_rfl, ?_⟩) (by assumption) ?_
          rotate_left 1
          · (intro w hSw; obtain ⟨hk1, hk2, hk3, hk4, hk5, hk6⟩ := hSw; go_simp <;> with_reducible rfl)
          simp only [Act.put, List.getElem_toArray, List.getElem_cons_zero, List.getElem_cons_succ, List.setIfInBounds_toArray, List.set_cons_zero, List.set_cons_succ]
          refine wpAnyH_take (i := 12) (v := ?_) rfl (by kernel_rfl) (by kernel_rfl) (by kernel_rfl) (fun _ _ _ h => h) (Or.inl ⟨by kernel_rfl, ?_⟩) (by assumption) ?_
          rotate_left 1
          · (intro w hSw; obtain ⟨hk1, hk2, hk3, hk4, hk5, hk6⟩ := hSw; go_simp <;> with_reducible rfl)
          simp only [Act.put, List.getElem_toArray, List.getElem_cons_zero, List.getElem_cons_succ, List.setIfInBounds_toArray, List.set_cons_zero, List.set_cons_succ]
          refine wpAnyH_take (i := 13) (v := ?_) rfl (by kernel_rfl) (by kernel_rfl) (by kernel_rfl) (fun _ _ _ h => h) (Or.inl ⟨by kernel_rfl, ?_⟩) (by assumption) ?_
          rotate_left 1
          · (intro w hSw; obtain ⟨hk1, hk2, hk3, hk4, hk5, hk6⟩ := hSw; go_simp <;> with_reducible rfl)
          simp only [Act.put, List.getElem_toArray, List.getElem_cons_zero, List.getElem_cons_succ, List.setIfInBounds_toArray, List.set_cons_zero, List.set_cons_succ]
          refine wpAnyH_take (i := 14) (v := ?_) rfl (by kernel_rfl) (by kernel_rfl) (by kernel_rfl) (fun _ _ _ h => h) (Or.inl ⟨by kernel_rfl, ?_⟩) (by assumption) ?_
          rotate_left 1
          · (intro w hSw; obtain ⟨hk1, hk2, hk3, hk4, hk5, hk6⟩ := hSw; go_simp <;> with_reducible rfl)
          simp only [Act.put, List.getElem_toArray, List.getElem_cons_zero, List.getElem_cons_succ, List.setIfInBounds_toArray, List.set_cons_zero, List.set_cons_succ]
          refine wpAnyH_take (i := 15) (v := ?_) rfl (by kernel_rfl) (by kernel_rfl) (by kernel_rfl) (fun _ _ _ h => h) (Or.inl ⟨by kernel_rfl, ?_⟩) (by assumption) ?_
          rotate_left 1
          · (intro w hSw; obtain ⟨hk1, hk2, hk3, hk4, hk5, hk6⟩ := hSw; go_simp <;> with_reducible rfl)
          simp only [Act.put, List.getElem_toArray, List.getElem_cons_zero, List.getElem_cons_succ, List.setIfInBounds_toArray, List.set_cons_zero, List.set_cons_succ]
          refine wpAnyH_take (i := 16) (v := ?_) rfl (by kernel_rfl) (by kernel_rfl) (by kernel_rfl) (fun _ _ _ h => h) (Or.inl ⟨by kernel_rfl, ?_⟩) (by assumption) ?_
          rotate_left 1
          · (intro w hSw; obtain ⟨hk1, hk2, hk3, hk4, hk5, hk6⟩ := hSw; go_simp <;> with_reducible rfl)
          simp only [Act.put, List.getElem_toArray, List.getElem_cons_zero, List.getElem_cons_succ, List.setIfInBounds_toArray, List.set_cons_zero, List.set_cons_succ]
          refine wpAnyH_take (i := 17) (v := ?_) rfl (by kernel_rfl) (by kernel_rfl) (by kernel_rfl) (fun _ _ _ h => h) (Or.inl ⟨by kernel_rfl, ?_⟩) (by assumption) ?_
          rotate_left 1
          · (intro w hSw; obtain ⟨hk1, hk2, hk3, hk4, hk5, hk6⟩ := hSw; go_simp <;> with_reducible rfl)
          simp only [Act.put, List.getElem_toArray, List.getElem_cons_zero, List.getElem_cons_succ, List.setIfInBounds_toArray, List.set_cons_zero, List.set_cons_succ]
          refine wpAnyH_take (i := 18) (v := ?_) rfl (by kernel_rfl) (by kernel_rfl) (by kernel_rfl) (fun _ _ _ h => h) (Or.inl ⟨by kernel_rfl, ?_⟩) (by assumption) ?_
          rotate_left 1
          · (intro w hSw; obtain ⟨hk1, hk2, hk3, hk4, hk5, hk6⟩ := hSw; go_simp <;> with_reducible rfl)
          simp only [Act.put, List.getElem_toArray, List.getElem_cons_zero, List.getElem_cons_succ, List.setIfInBounds_toArray, List.set_cons_zero, List.set_cons_succ]
          refine wpAnyH_take (i := 19) (v := ?_) rfl (by kernel_rfl) (by kernel_rfl) (by kernel_rfl) (fun _ _ _ h => h) (Or.inl ⟨by kernel_rfl, ?_⟩) (by assumption) ?_
          rotate_left 1
          · (intro w hSw; obtain ⟨hk1, hk2, hk3, hk4, hk5, hk6⟩ := hSw; go_simp <;> with_reducible rfl)
          simp only [Act.put, List.getElem_toArray, List.getElem_cons_zero, List.getElem_cons_succ, List.setIfInBounds_toArray, List.set_cons_zero, List.set_cons_succ]
          refine wpAnyH_take (i := 20) (v := ?_) rfl (by kernel_rfl) (by kernel_rfl) (by kernel_rfl) (fun _ _ _ h => h) (Or.inl ⟨by kernel_rfl, ?_⟩) (by assumption) ?_
          rotate_left 1
          · (intro w hSw; obtain ⟨hk1, hk2, hk3, hk4, hk5, hk6⟩ := hSw; go_simp <;> with_reducible rfl)
          simp only [Act.put, List.getElem_toArray, List.getElem_cons_zero, List.getElem_cons_succ, List.setIfInBounds_toArray, List.set_cons_zero, List.set_cons_succ]
          refine wpAnyH_take (i := 21) (v := ?_) rfl (by kernel_rfl) (by kernel_rfl) (by kernel_rfl) (fun _ _ _ h => h) (Or.inl ⟨by kernel_rfl, ?_⟩) (by assumption) ?_
          rotate_left 1
          · (intro w hSw; obtain ⟨hk1, hk2, hk3, hk4, hk5, hk6⟩ := hSw; go_simp <;> with_reducible rfl)
          simp only [Act.put, List.getElem_toArray, List.getElem_cons_zero, List.getElem_cons_succ, List.setIfInBounds_toArray, List.set_cons_zero, List.set_cons_succ]
          refine wpAnyH_take (i := 22) (v := ?_) rfl (by kernel_rfl) (by kernel_rfl) (by kernel_rfl) (fun _ _ _ h => h) (Or.inl ⟨by kernel_rfl, ?_⟩) (by assumption) ?_
          rotate_left 1
          · (intro w hSw; obtain ⟨hk1, hk2, hk3, hk4, hk5, hk6⟩ := hSw; go_simp <;> with_reducible rfl)
          simp only [Act.put, List.getElem_toArray, List.getElem_cons_zero, List.getElem_cons_succ, List.setIfInBounds_toArray, List.set_cons_zero, List.set_cons_succ]
          refine wpAnyH_take (i := 23) (v := ?_) rfl (by kernel_rfl) (by kernel_rfl) (by kernel_rfl) (fun _ _ _ h => h) (Or.inl ⟨by kernel_rfl, ?_⟩) (by assumption) ?_
          rotate_left 1
          · (intro w hSw; obtain ⟨hk1, hk2, hk3, hk4, hk5, hk6⟩ := hSw; go_simp <;> with_reducible rfl)
          simp only [Act.put, List.getElem_toArray, List.getElem_cons_zero, List.getElem_cons_succ, List.setIfInBounds_toArray, List.set_cons_zero, List.set_cons_succ]
          refine wpAnyH_take (i := 24) (v := ?_) rfl (by kernel_rfl) (by kernel_rfl) (by kernel_rfl) (fun _ _ _ h => h) (Or.inl ⟨by kernel_rfl, ?_⟩) (by assumption) ?_
          rotate_left 1
          · (intro w hSw; obtain ⟨hk1, hk2, hk3, hk4, hk5, hk6⟩ := hSw; go_simp <;> with_reducible rfl)
          simp only [Act.put, List.getElem_toArray, List.getElem_cons_zero, List.getElem_cons_succ, List.setIfInBounds_toArray, List.set_cons_zero, List.set_cons_succ]
          refine wpAnyH_take (i := 25) (v := ?_) rfl (by kernel_rfl) (by kernel_rfl) (by kernel_rfl) (fun _ _ _ h => h) (Or.inl ⟨by kernel_rfl, ?_⟩) (by assumption) ?_
          rotate_left 1
          · (intro w hSw; obtain ⟨hk1, hk2, hk3, hk4, hk5, hk6⟩ := hSw; go_simp <;> with_reducible rfl)
          simp only [Act.put, List.getElem_toArray, List.getElem_cons_zero, List.getElem_cons_succ, List.setIfInBounds_toArray, List.set_cons_zero, List.set_cons_succ]
          refine nextH (i := 26) (by kernel_rfl) rfl (fun K hK => ?_)
          go_simp
          refine (HRO2.out _).mono ?_
          rintro e w12 ⟨rfl, hb12⟩
          try dsimp only
          have hs12 := hb12.size
          have hS12 : w12.cell? ⟨G, 0, none⟩ = some (.int .i64 o1) ∧ w12.cell? ⟨G, 1, none⟩ = some (.int .i64 o2) ∧ w12.cell? ⟨b, off + k * 3, none⟩ = some (.int .i64 l[k].1) ∧ w12.cell? ⟨b, off + k * 3 + 1, none⟩ = some (.int .i64 l[k].2.1) ∧ w12.cell? ⟨b, off + k * 3 + 2, none⟩ = some (.int .i64 l[k].2.2) ∧ Below w7.heap.size w7 w12 := by
            obtain ⟨k1, k2, k3, k4, k5, k6⟩ := hSd
            exact ⟨(hb12.cell (p := ⟨G, 0, none⟩) hzg).trans k1, (hb12.cell (p := ⟨G, 1, none⟩) hzg).trans k2, (hb12.cell (p := ⟨b, off + k * 3, none⟩) hzb).trans k3, (hb12.cell (p := ⟨b, off + k * 3 + 1, none⟩) hzb).trans k4, (hb12.cell (p := ⟨b, off + k * 3 + 2, none⟩) hzb).trans k5, bel_tr k6 k6.size hb12⟩
          refine hK _ _ hS12 ?_
          clear hK K hSd
          refine wpAnyH_take (i := 27) (v := ?_) rfl (by kernel_rfl) (by kernel_rfl) (by kernel_rfl) (fun _ _ _ h => h) (Or.inl ⟨by kernel_rfl, ?_⟩) (by assumption) ?_
          rotate_left 1
          · (intro w hSw; obtain ⟨hk1, hk2, hk3, hk4, hk5, hk6⟩ := hSw; go_simp <;> with_reducible rfl)
          simp only [Act.put, List.getElem_toArray, List.getElem_cons_zero, List.getElem_cons_succ, List.setIfInBounds_toArray, List.set_cons_zero, List.set_cons_succ]
          refine wpAnyH_take (i := 28) (v := ?_) rfl (by kernel_rfl) (by kernel_rfl) (by kernel_rfl) (fun _ _ _ h => h) (Or.inl ⟨by kernel_rfl, ?_⟩) (by assumption) ?_
          rotate_left 1
          · (intro w hSw; obtain ⟨hk1, hk2, hk3, hk4, hk5, hk6⟩ := hSw; go_simp <;> with_reducible rfl)
          simp only [Act.put, List.getElem_toArray, List.getElem_cons_zero, List.getElem_cons_succ, List.setIfInBounds_toArray, List.set_cons_zero, List.set_cons_succ]
          refine wpAnyH_take (i := 29) (v := ?_) rfl (by kernel_rfl) (by kernel_rfl) (by kernel_rfl) (fun _ _ _ h => h) (Or.inl ⟨by kernel_rfl, ?_⟩) (by assumption) ?_
          rotate_left 1
          · (intro w hSw; obtain ⟨hk1, hk2, hk3, hk4, hk5, hk6⟩ := hSw; go_simp <;> with_reducible rfl)
          simp only [Act.put, List.getElem_toArray, List.getElem_cons_zero, List.getElem_cons_succ, List.setIfInBounds_toArray, List.set_cons_zero, List.set_cons_succ]
          refine wpAnyH_take (i := 30) (v := ?_) rfl (by kernel_rfl) (by kernel_rfl) (by kernel_rfl) (fun _ _ _ h => h) (Or.inl ⟨by kernel_rfl, ?_⟩) (by assumption) ?_
          rotate_left 1
          · (intro w hSw; obtain ⟨hk1, hk2, hk3, hk4, hk5, hk6⟩ := hSw; go_simp <;> with_reducible rfl)
          simp only [Act.put, List.getElem_toArray, List.getElem_cons_zero, List.getElem_cons_succ, List.setIfInBounds_toArray, List.set_cons_zero, List.set_cons_succ]
          refine wpAnyH_done (by kernel_rfl) ?_ _
          have hbE := hS12.2.2.2.2.2
          go_wp2
          go_roundw
          case rel => exact ⟨k + 1, by omega, by go_num, hbE⟩
          case measure => simp [intOf]; omega
        · have e1 : (D != 0) = true := by simpa using hD
          have e2 : (D == 0) = false := by simpa using hD
          have hBR : BR = ((0, 0), D) := by rw [HBR2.out (by rw [hBE]; exact hD), hBE]
          rw [hBR] at HOB
          clear hD hBE hBR HBR1 HBR2 HBE
          go_upto_region 16 with (first
            | (go_at_call 14; refine (HEX.out _).mono ?_; rintro e_ w8 ⟨rfl, hb8⟩; have y0 := (hb8.cell (p := ⟨b, off + k * 3, none⟩) hblt).trans x0; have y1 := (hb8.cell (p := ⟨b, off + k * 3 + 1, none⟩) hblt).trans x1; have y2 := (hb8.cell (p := ⟨b, off + k * 3 + 2, none⟩) hblt).trans x2; have hz8 : b < w8.heap.size := Nat.lt_of_lt_of_le hblt hb8.size)
            | (go_at_call 15; refine (HCX.out _).mono ?_; rintro e_ w9 ⟨rfl, hb9⟩; have z0 := (hb9.cell (p := ⟨b, off + k * 3, none⟩) hz8).trans y0; have z1 := (hb9.cell (p := ⟨b, off + k * 3 + 1, none⟩) hz8).trans y1; have z2 := (hb9.cell (p := ⟨b, off + k * 3 + 2, none⟩) hz8).trans y2)
            | (go_at_call 16; refine (HDE.out _).mono ?_; rintro e_ w_ ⟨rfl, rfl⟩)
            | (go_at_call 17; refine (HOB.out _).mono ?_; rintro e_ w10 ⟨rfl, hb10⟩))
          have hb810 : Below wr.heap.size wr w10 := (tr hb8 hb9 hb8.size).trans (hb10.mono (by have := hb8.size; have := hb9.size; omega))
          obtain ⟨w11, hw11⟩ : ∃ W, w10.alloc (.cells #[.int .i64 0, .int .i64 0] 26) = W := ⟨_, rfl⟩
          have hG : Blk w11 w10.heap.size 26 [.int .i64 0, .int .i64 0] := by rw [← hw11]; exact Blk.new w10 _ [_, _]
          have hbr11 : Below wr.heap.size wr w11 := by rw [← hw11]; exact bel_alloc hb810 hb810.size _
          have hb11 : Below w7.heap.size w7 w11 := by rw [← hw11]; exact bel_alloc (bel_tr hbr hsr hb810) (by have := hb810.size; omega) _
          rw [hw11]
          have g0 := hG.cell 0; have g1 := hG.cell 1; simp only [List.getElem?_cons_zero, List.getElem?_cons_succ] at g0 g1
          have hzg := hG.lt
          clear hw11 x0 x1 x2 y0 y1 y2 z0 z1 z2 hb8 hb9 hb10 HEX HCX HOB HRO hz8
          go_quiet (fail)
          go_wp2
          go_roundw
          case rel => exact ⟨k + 1, by omega, by go_num, below_drewN hb11 _⟩
          case measure => simp [intOf]; omega
      · have e1 : (X != 0) = true := by simpa using hX
        have e2 : (X == 0) = false := by simpa using hX
        have hBE : BE = X := by have := HBE.out; rwa [if_neg hX] at this
        have hBR : BR = ((0, 0), X) := by rw [HBR2.out (by rw [hBE]; exact hX), hBE]
        rw [hBR] at HOB
        clear hX hBE hBR HBR1 HBR2 HBE
        go_upto_region 16 with (first
          | (go_at_call 14; refine (HEX.out _).mono ?_; rintro e_ w8 ⟨rfl, hb8⟩; have y0 := (hb8.cell (p := ⟨b, off + k * 3, none⟩) hblt).trans x0; have y1 := (hb8.cell (p := ⟨b, off + k * 3 + 1, none⟩) hblt).trans x1; have y2 := (hb8.cell (p := ⟨b, off + k * 3 + 2, none⟩) hblt).trans x2; have hz8 : b < w8.heap.size := Nat.lt_of_lt_of_le hblt hb8.size)
          | (go_at_call 15; refine (HCX.out _).mono ?_; rintro e_ w9 ⟨rfl, hb9⟩; have z0 := (hb9.cell (p := ⟨b, off + k * 3, none⟩) hz8).trans y0; have z1 := (hb9.cell (p := ⟨b, off + k * 3 + 1, none⟩) hz8).trans y1; have z2 := (hb9.cell (p := ⟨b, off + k * 3 + 2, none⟩) hz8).trans y2)
          | (go_at_call 16; refine (HDE.out _).mono ?_; rintro e_ w_ ⟨rfl, rfl⟩)
          | (go_at_call 17; refine (HOB.out _).mono ?_; rintro e_ w10 ⟨rfl, hb10⟩))
        have hb810 : Below wr.heap.size wr w10 := (tr hb8 hb9 hb8.size).trans (hb10.mono (by have := hb8.size; have := hb9.size; omega))
        obtain ⟨w11, hw11⟩ : ∃ W, w10.alloc (.cells #[.int .i64 0, .int .i64 0] 26) = W := ⟨_, rfl⟩
        have hG : Blk w11 w10.heap.size 26 [.int .i64 0, .int .i64 0] := by rw [← hw11]; exact Blk.new w10 _ [_, _]
        have hbr11 : Below wr.heap.size wr w11 := by rw [← hw11]; exact bel_alloc hb810 hb810.size _
        have hb11 : Below w7.heap.size w7 w11 := by rw [← hw11]; exact bel_alloc (bel_tr hbr hsr hb810) (by have := hb810.size; omega) _
        rw [hw11]
        have g0 := hG.cell 0; have g1 := hG.cell 1; simp only [List.getElem?_cons_zero, List.getElem?_cons_succ] at g0 g1
        have hzg := hG.lt
        clear hw11 x0 x1 x2 y0 y1 y2 z0 z1 z2 hb8 hb9 hb10 HEX HCX HOB HRO hz8
        go_quiet (fail)
        go_wp2
        go_roundw
        case rel => exact ⟨k + 1, by omega, by go_num, below_drewN hb11 _⟩
        case measure => simp [intOf]; omega
    · obtain rfl : k = l.length := by omega
      have hPr := hP7.bel hbr
      have hQr := hQ7.bel hbr
      clear HBY HD0 HDE hP7 hQ7 hr7
      by_cases hE : E = 0
      · have hT := HT0.out hE
        have hA := HAT.out hE
        have HRA2 := hide (fun W h => HRA.out W h hE)
        subst hE
        clear HRA HAT HT0 HB1
        obtain ⟨C1, C2⟩ := C
        dsimp only at hA HRA2
        by_cases hlo : C2 < C1
        · rw [if_pos hlo] at hA
          have hle : decide (C1 ≤ C2) = false := by simp; omega
          rw [hle] at HRA2
          injection hA with h1 h2
          injection h1 with h1 h3
          subst h1 h3 h2
          have hTR := HB2.out (by decide)
          injection hTR with h1 h2
          injection h1 with h1 h3
          subst h1 h3 h2
          clear hlo hle HTT HB2
          go_upto_region 21 with (first | (go_at_call 19; refine (HCE.out _ hrr).mono ?_; rintro e_ w8 ⟨rfl, hb8⟩))
          have hs8 := hb8.size
          have hb9 := alloc_bel w8 (.cells #[.int .i64 0, .int .i64 0] 26)
          have hG9 := Blk.new w8 26 [.int .i64 0, .int .i64 0]
          have hP9 := (hPr.bel hb8).bel hb9
          have hQ9 := (hQr.bel hb8).bel hb9
          have hr9 := (hrr.bel hb8).bel hb9
          have hB9 := bel_alloc (bel_tr hBr hBr.size hb8) (by have := hBr.size; omega) (.cells #[.int .i64 0, .int .i64 0] 26)
          obtain ⟨w9, hw9⟩ : ∃ W, w8.alloc (.cells #[.int .i64 0, .int .i64 0] 26) = W := ⟨_, rfl⟩
          obtain ⟨g9, hg9⟩ : ∃ g, w8.heap.size = g := ⟨_, rfl⟩
          have hgw : w.heap.size ≤ g9 := by have := hBr.size; omega
          have hpg : p < g9 := by have := hPr.lt; omega
          have hqg : q < g9 := by have := hQr.lt; omega
          rw [hw9] at hG9 hP9 hQ9 hr9 hB9 ⊢
          rw [hg9] at hG9 ⊢
          clear hw9 hg9 hb9 hb8 hs8
          go_wp2_with (first | (go_at_call 20; refine (HRA2.out _ hr9).mono ?_; rintro e_ w10 ⟨rfl, hb10⟩; have hG10 := hG9.bel hb10; have f0 := hG10.frozen 0; have f1 := hG10.frozen 1; have g0 := hG10.cell 0; have g1 := hG10.cell 1; simp only [List.getElem?_cons_zero, List.getElem?_cons_succ] at g0 g1; have hP10 := hP9.bel hb10; have hQ10 := hQ9.bel hb10; have p0 := hP10.cell 0; have p1 := hP10.cell 1; simp only [List.getElem?_cons_zero, List.getElem?_cons_succ] at p0 p1; have q0 := hQ10.cell 0; have q1 := hQ10.cell 1; simp only [List.getElem?_cons_zero, List.getElem?_cons_succ] at q0 q1; have hzp := hP10.lt; have hzq := hQ10.lt; have hzg := hG10.lt))
          go_ret
          exact ⟨rfl, (((bel_tr hB9 hB9.size hb10).setCell (by show w.heap.size ≤ g9; omega) _).setCell (by show w.heap.size ≤ g9; omega) _)⟩
        · rw [if_neg hlo] at hA
          have hle : decide (C1 ≤ C2) = true := by simp; omega
          rw [hle] at HRA2
          injection hA with h1 h2
          injection h1 with h1 h3
          subst h1 h3 h2
          have hTR := HTT.out rfl
          injection hTR with h1 h2
          injection h1 with h1 h3
          subst h1 h3 h2
          clear hlo hle HTT HB2
          go_upto_region 21 with (first | (go_at_call 19; refine (HCE.out _ hrr).mono ?_; rintro e_ w8 ⟨rfl, hb8⟩))
          have hs8 := hb8.size
          have hb9 := alloc_bel w8 (.cells #[.int .i64 0, .int .i64 0] 26)
          have hG9 := Blk.new w8 26 [.int .i64 0, .int .i64 0]
          have hP9 := (hPr.bel hb8).bel hb9
          have hQ9 := (hQr.bel hb8).bel hb9
          have hr9 := (hrr.bel hb8).bel hb9
          have hB9 := bel_alloc (bel_tr hBr hBr.size hb8) (by have := hBr.size; omega) (.cells #[.int .i64 0, .int .i64 0] 26)
          obtain ⟨w9, hw9⟩ : ∃ W, w8.alloc (.cells #[.int .i64 0, .int .i64 0] 26) = W := ⟨_, rfl⟩
          obtain ⟨g9, hg9⟩ : ∃ g, w8.heap.size = g := ⟨_, rfl⟩
          have hgw : w.heap.size ≤ g9 := by have := hBr.size; omega
          have hpg : p < g9 := by have := hPr.lt; omega
          have hqg : q < g9 := by have := hQr.lt; omega
          rw [hw9] at hG9 hP9 hQ9 hr9 hB9 ⊢
          rw [hg9] at hG9 ⊢
          clear hw9 hg9 hb9 hb8 hs8
          go_wp2_with (first | (go_at_call 20; refine (HRA2.out _ hr9).mono ?_; rintro e_ w10 ⟨rfl, hb10⟩; have hG10 := hG9.bel hb10; have f0 := hG10.frozen 0; have f1 := hG10.frozen 1; have g0 := hG10.cell 0; have g1 := hG10.cell 1; simp only [List.getElem?_cons_zero, List.getElem?_cons_succ] at g0 g1; have hP10 := hP9.bel hb10; have hQ10 := hQ9.bel hb10; have p0 := hP10.cell 0; have p1 := hP10.cell 1; simp only [List.getElem?_cons_zero, List.getElem?_cons_succ] at p0 p1; have q0 := hQ10.cell 0; have q1 := hQ10.cell 1; simp only [List.getElem?_cons_zero, List.getElem?_cons_succ] at q0 q1; have hzp := hP10.lt; have hzq := hQ10.lt; have hzg := hG10.lt))
          go_ret
          exact ⟨rfl, (((bel_tr hB9 hB9.size hb10).setCell (by show w.heap.size ≤ g9; omega) _).setCell (by show w.heap.size ≤ g9; omega) _)⟩
      · have hA := HB1.out hE
        have e1 : (E != 0) = true := by simpa using hE
        have e2 : (E == 0) = false := by simpa using hE
        injection hA with h1 h2
        injection h1 with h1 h3
        subst h1 h3 h2
        have hTR := HB2.out hE
        injection hTR with h1 h2
        injection h1 with h1 h3
        subst h1 h3 h2
        clear hE HTT HB2 HRA HAT HT0 HB1
        have p0 := hPr.cell 0; have p1 := hPr.cell 1; simp only [List.getElem?_cons_zero, List.getElem?_cons_succ] at p0 p1
        have q0 := hQr.cell 0; have q1 := hQr.cell 1; simp only [List.getElem?_cons_zero, List.getElem?_cons_succ] at q0 q1
        go_upto_region 20 with (first | (go_at_call 19; refine (HCE.out _ hrr).mono ?_; rintro e_ w8 ⟨rfl, hb8⟩))
        have hs8 := hb8.size
        have hb9 := alloc_bel w8 (.cells #[.int .i64 0, .int .i64 0] 26)
        have hG9 := Blk.new w8 26 [.int .i64 0, .int .i64 0]
        have hP9 := (hPr.bel hb8).bel hb9
        have hQ9 := (hQr.bel hb8).bel hb9
        have hr9 := (hrr.bel hb8).bel hb9
        have hB9 := bel_alloc (bel_tr hBr hBr.size hb8) (by have := hBr.size; omega) (.cells #[.int .i64 0, .int .i64 0] 26)
        obtain ⟨w9, hw9⟩ : ∃ W, w8.alloc (.cells #[.int .i64 0, .int .i64 0] 26) = W := ⟨_, rfl⟩
        obtain ⟨g9, hg9⟩ : ∃ g, w8.heap.size = g := ⟨_, rfl⟩
        have hgw : w.heap.size ≤ g9 := by have := hBr.size; omega
        have hpg : p < g9 := by have := hPr.lt; omega
        have hqg : q < g9 := by have := hQr.lt; omega
        rw [hw9] at hG9 hP9 hQ9 hr9 hB9 ⊢
        rw [hg9] at hG9 ⊢
        clear hw9 hg9 hb9 hb8 hs8
        have u0 := hP9.cell 0; have u1 := hP9.cell 1; simp only [List.getElem?_cons_zero, List.getElem?_cons_succ] at u0 u1
        have v0 := hQ9.cell 0; have v1 := hQ9.cell 1; simp only [List.getElem?_cons_zero, List.getElem?_cons_succ] at v0 v1
        go_wp2
        go_ret
        exact ⟨rfl, hB9⟩

theorem clocksLaw_c (A : Option Addr) (c : Nat) (l : List PT) (drift T : Int) (w : World) (hr : Rd w A (ps l)) (hmx : l.length ≤ maxLen) :
    Calls Try.prog 3 #[.slice A l.length c, .int .i64 drift, .int .i64 T] w fun r w' => r = .returned (.bool true) ∧ Below w.heap.size w w' := by
  by_cases h : l.length ≤ 22
  · exact clocks_ok A c l drift T w hr h
  · have HFEW := hide (fun W => few_c A l.length c W (by unfold maxLen at hmx; omega))
    rw [show decide ((l.length : Int) ≤ 22) = false by simp; omega] at HFEW
    clear h hmx
    go_enter Try.func3, Try.ntmps3
    go_wp2_with (first
      | (go_at_call 9; refine (awake_c _).mono ?_; rintro e_ w1 ⟨rfl, hb1⟩)
      | (go_at_call 10; refine (HFEW.out _).mono ?_; rintro e_ w_ ⟨rfl, rfl⟩))
    go_ret
    exact ⟨rfl, hb1⟩
end Go.Proofs.Ytmdmkmfemhkfgaa
