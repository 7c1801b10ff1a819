/- The law CodeHarmonics: the call returns true, and nothing that was there turns. Condition: the laid table. Written by tools/genl14.py. -/
import Derived.Test.YtdpcehlakhahiaaDoorEq4
import Derived.Test.YtdpcehlakhahiaaDoorOpenF
namespace Go.Proofs.YtdpcehlakhahiaaDoor
open Go.RowKit
set_option maxRecDepth 100000

set_option maxHeartbeats 2000000 in
theorem harm_1 (l : List Fr) (F : Option Addr) (c : Nat) (num den : Int) (w : World) (hT : Tab w) (hr : Rd w F (l.map Fr.row).flatten) (hrd : ∀ f ∈ l, f.rd w) (h1 : 6 < l.length) :
    Calls Tryd.prog 5 #[.slice F l.length c, .agg #[.int .i64 num, .int .i64 den]] w fun r w' => r = .returned (.bool true) ∧ Below w.heap.size w w' := by
  have d6 : decide ((6 : Int) < (l.length : Int)) = true := by simp; omega
  have _u1 := hr
  have _u2 := hrd
  clear h1 hr hrd _u1 _u2
  go_enter Tryd.func5, Tryd.ntmps5
  go_wp2_with (first
    | (go_at_call 9; refine (awake_c _ (hT.bel (alloc_bel _ _))).mono ?_; rintro e w1 ⟨rfl, hb1⟩; have hX1 := (Blk.new w 43 [.int .i64 num, .int .i64 den]).bel hb1; have hW1 : Below w.heap.size w w1 := tr (alloc_bel _ _) hb1 (by simp)))
  go_ret
  exact ⟨rfl, hW1⟩

set_option maxHeartbeats 2000000 in
theorem harm_2 (l : List Fr) (F : Option Addr) (c : Nat) (num den : Int) (w : World) (hT : Tab w) (hr : Rd w F (l.map Fr.row).flatten) (hrd : ∀ f ∈ l, f.rd w) (h1 : l.length ≤ 6) (h2 : ¬ ∀ i (h : i < l.length), fewB l[i].samples.length l[i].gaps.length = true) :
    Calls Tryd.prog 5 #[.slice F l.length c, .agg #[.int .i64 num, .int .i64 den]] w fun r w' => r = .returned (.bool true) ∧ Below w.heap.size w w' := by
  have d6 : decide ((6 : Int) < (l.length : Int)) = false := by simp; omega
  have _u2 := hrd
  clear hrd _u2
  go_enter Tryd.func5, Tryd.ntmps5
  go_wp2_with (first
    | (go_at_call 9; refine (awake_c _ (hT.bel (alloc_bel _ _))).mono ?_; rintro e w1 ⟨rfl, hb1⟩; have hX1 := (Blk.new w 43 [.int .i64 num, .int .i64 den]).bel hb1; have hW1 : Below w.heap.size w w1 := tr (alloc_bel _ _) hb1 (by simp)))
  have hR1 := hr.bel hW1
  go_loopw [5] (fun i wr => ∃ k : Nat, k ≤ l.length ∧ i = .int .i64 k ∧ Below w1.heap.size w1 wr ∧ ∀ i (h : i < l.length), i < k → fewB l[i].samples.length l[i].gaps.length = true) (fun i _ => l.length - (intOf i).toNat)
  case atStart => exact ⟨0, Nat.zero_le _, rfl, Below.refl _ _, fun i _ h => by omega⟩
  case round =>
    obtain ⟨k, hk, rfl, hbr, hall⟩ := hrel
    have HALL := hide hall
    clear hall
    by_cases hlt : k < l.length
    · obtain ⟨bF, oF, rfl, hbF, s0, s1, s2, s3⟩ := hR1.fr_at hlt
      have s0 := (hbr.cell (p := ⟨bF, _, none⟩) hbF).trans s0
      have s1 := (hbr.cell (p := ⟨bF, _, none⟩) hbF).trans s1
      have s2 := (hbr.cell (p := ⟨bF, _, none⟩) hbF).trans s2
      have s3 := (hbr.cell (p := ⟨bF, _, none⟩) hbF).trans s3
      have ix0 : (0 : Int) ≤ (k : Int) := by omega
      have ix1 : (k : Int) < (l.length : Int) := by omega
      cases hb : fewB l[k].samples.length l[k].gaps.length
      · have HB := hide hb
        clear hb
        generalize l[k].gain = fg at s0
        generalize l[k].limit = fl at s1
        generalize l[k].A = fA at s2
        generalize l[k].cA = fcA at s2
        generalize l[k].G = fG at s3
        generalize l[k].cG = fcG at s3
        generalize l[k].samples.length = fs at s2 HB
        generalize l[k].gaps.length = fgs at s3 HB
        go_wp2_with (first
    | (go_at_call 23; refine (fewFrame_c _ _ _ _ _ _ _ _ _).mono ?_; rintro e w6 ⟨rfl, hb6⟩; rw [HB.out]))
        go_ret
        exact ⟨rfl, bel_tr hW1 hW1.size (bel_tr hbr hbr.size hb6)⟩
      · have HB := hide hb
        have H2 : Hid (∀ i (h : i < l.length), i < k + 1 → fewB l[i].samples.length l[i].gaps.length = true) := fun i h hi => by
          by_cases e : i = k
          · subst e; exact hb
          · exact HALL.out i h (by omega)
        clear hb
        generalize l[k].gain = fg at s0
        generalize l[k].limit = fl at s1
        generalize l[k].A = fA at s2
        generalize l[k].cA = fcA at s2
        generalize l[k].G = fG at s3
        generalize l[k].cG = fcG at s3
        generalize l[k].samples.length = fs at s2 HB
        generalize l[k].gaps.length = fgs at s3 HB
        go_wp2_with (first
    | (go_at_call 23; refine (fewFrame_c _ _ _ _ _ _ _ _ _).mono ?_; rintro e w6 ⟨rfl, hb6⟩; rw [HB.out]))
        go_roundw
        case rel => exact ⟨k + 1, by omega, by go_num, bel_tr hbr hbr.size hb6, H2.out⟩
        case measure => simp [intOf]; omega
    · obtain rfl : k = l.length := by omega
      exact absurd (fun i h => HALL.out i h h) h2

set_option maxHeartbeats 4000000 in
theorem harm_3 (l : List Fr) (F : Option Addr) (c : Nat) (num den : Int) (w : World) (hT : Tab w) (hr : Rd w F (l.map Fr.row).flatten) (hrd : ∀ f ∈ l, f.rd w) (h1 : l.length ≤ 6) (h2 : ∀ i (h : i < l.length), fewB l[i].samples.length l[i].gaps.length = true) (hE : framesE l ≠ 0) :
    Calls Tryd.prog 5 #[.slice F l.length c, .agg #[.int .i64 num, .int .i64 den]] w fun r w' => r = .returned (.bool true) ∧ Below w.heap.size w w' := by
  have d6 : decide ((6 : Int) < (l.length : Int)) = false := by simp; omega
  have HFW := hide h2
  have hok : ∀ f ∈ l, f.ok w := fun f hf => by
    obtain ⟨i, hi, rfl⟩ := List.getElem_of_mem hf
    have := h2 i hi
    unfold fewB at this
    have := of_decide_eq_true this
    exact ⟨(hrd _ hf).1, (hrd _ hf).2, by omega, by omega⟩
  clear h2
  go_enter Tryd.func5, Tryd.ntmps5
  go_wp2_with (first
    | (go_at_call 9; refine (awake_c _ (hT.bel (alloc_bel _ _))).mono ?_; rintro e w1 ⟨rfl, hb1⟩; have hX1 := (Blk.new w 43 [.int .i64 num, .int .i64 den]).bel hb1; have hW1 : Below w.heap.size w w1 := tr (alloc_bel _ _) hb1 (by simp)))
  have hR1 := hr.bel hW1
  go_loopw [5] (fun i wr => ∃ k : Nat, k ≤ l.length ∧ i = .int .i64 k ∧ Below w1.heap.size w1 wr ∧ ∀ i (h : i < l.length), i < k → fewB l[i].samples.length l[i].gaps.length = true) (fun i _ => l.length - (intOf i).toNat)
  case atStart => exact ⟨0, Nat.zero_le _, rfl, Below.refl _ _, fun i _ h => by omega⟩
  case round =>
    obtain ⟨k, hk, rfl, hbr, hall⟩ := hrel
    have HALL := hide hall
    clear hall
    by_cases hlt : k < l.length
    · obtain ⟨bF, oF, rfl, hbF, s0, s1, s2, s3⟩ := hR1.fr_at hlt
      have s0 := (hbr.cell (p := ⟨bF, _, none⟩) hbF).trans s0
      have s1 := (hbr.cell (p := ⟨bF, _, none⟩) hbF).trans s1
      have s2 := (hbr.cell (p := ⟨bF, _, none⟩) hbF).trans s2
      have s3 := (hbr.cell (p := ⟨bF, _, none⟩) hbF).trans s3
      have ix0 : (0 : Int) ≤ (k : Int) := by omega
      have ix1 : (k : Int) < (l.length : Int) := by omega
      · skip
        have HB := hide (HFW.out k hlt)
        have H2 : Hid (∀ i (h : i < l.length), i < k + 1 → fewB l[i].samples.length l[i].gaps.length = true) := fun i h _ => HFW.out i h
        generalize l[k].gain = fg at s0
        generalize l[k].limit = fl at s1
        generalize l[k].A = fA at s2
        generalize l[k].cA = fcA at s2
        generalize l[k].G = fG at s3
        generalize l[k].cG = fcG at s3
        generalize l[k].samples.length = fs at s2 HB
        generalize l[k].gaps.length = fgs at s3 HB
        go_wp2_with (first
    | (go_at_call 23; refine (fewFrame_c _ _ _ _ _ _ _ _ _).mono ?_; rintro e w6 ⟨rfl, hb6⟩; rw [HB.out]))
        go_roundw
        case rel => exact ⟨k + 1, by omega, by go_num, bel_tr hbr hbr.size hb6, H2.out⟩
        case measure => simp [intOf]; omega
    · obtain rfl : k = l.length := by omega
      obtain ⟨V, hV⟩ : ∃ V, wr = V := ⟨_, rfl⟩
      rw [hV] at hbr ⊢
      clear hV
      have hWV := bel_tr hW1 hW1.size hbr
      have hXV := hX1.bel hbr
      have hxl := hXV.lt
      have c0 := hXV.cell 0; have c1 := hXV.cell 1; simp only [List.getElem?_cons_zero, List.getElem?_cons_succ] at c0 c1
      have hRV := hr.bel hWV
      have hTV := hT.bel hWV
      have hoV : ∀ f ∈ l, f.ok V := fun f hf => (hok f hf).bel hWV
      have HCF := hide (fun W (h : Below V.heap.size V W) => refCopyFrames_c l F c W (hRV.bel h) (fun f hf => (hoV f hf).bel h) (by omega))
      have HFE := hide (fun W (h : Below V.heap.size V W) => refFramesErr_c l F c W (hRV.bel h) (fun f hf => (hoV f hf).bel h) (by omega))
      have HPO := hide (fun (m : List Fr) (A : Option Addr) (c : Nat) (W : World) (hT : Tab W) (hl : m.length = l.length) (hd : m.map Fr.dat = l.map Fr.dat) (hr : Rd W A (m.map Fr.row).flatten) (ho : ∀ f ∈ m, f.ok W) => show Calls Tryd.prog 24 #[.slice A l.length c] W fun r w' => r = .returned (.tuple #[.agg #[.int .i64 0, .int .i64 0, .int .i64 0, .int .i64 0], .int .i64 (framesE l)]) ∧ Below W.heap.size W w' from by
        have h := powersOf_c m A c W hT hr ho (by omega)
        rw [hl, framesE_dat hd] at h
        refine h.mono fun r w' k => ⟨?_, k.2⟩
        rcases k.1 with ⟨_, k⟩ | ⟨k, _⟩
        · exact k
        · exact absurd k hE)
      have HLI := hide (fun (m : List Fr) (A : Option Addr) (c : Nat) (W : World) (hT : Tab W) (hl : m.length = l.length) (hd : m.map Fr.dat = l.map Fr.dat) (hr : Rd W A (m.map Fr.row).flatten) (ho : ∀ f ∈ m, f.ok W) => show Calls Tryd.prog 26 #[.slice A l.length c, .agg #[.int .i64 num, .int .i64 den]] W fun r w' => r = .returned (.tuple #[.slice none 0 0, .int .i64 (framesE l)]) ∧ Below W.heap.size W w' from by
        have e : linE m num den = framesE l := by unfold linE firstE; rw [framesE_dat hd, if_neg hE]
        have h := linesIn_err m A c num den W hT hr ho (by omega) (by rw [e]; exact hE)
        rw [hl, e] at h
        exact h)
      have e1 : (framesE l != 0) = true := by simpa using hE
      have eg : Tryd.prog.eqGuardType Tryd.prog.depth 48 = false := by kernel_rfl
      have eq0 : ∀ W, Sem.run Tryd.prog (binOp .eql 48 (.agg #[.int .i64 0, .int .i64 0, .int .i64 0, .int .i64 0]) (.agg #[.int .i64 0, .int .i64 0, .int .i64 0, .int .i64 0])) W = .ok (.bool true) W := fun W => run_eq4 0 0 0 0 0 0 0 0 W
      clear hE hoV hrd
      generalize framesE l = E at HPO HLI HFE e1

      clear hR1 hr hok hT hX1 hb1
      go_upto_region 11 with (first
        | (go_at_call 25; refine (HCF.out _ (Below.refl _ _)).mono ?_; rintro e w2 ⟨⟨A2, c2, m2, rfl, hm2, hd2', hR2, ho2⟩, hb2⟩)
        | (go_at_call 24; refine (HPO.out m2 A2 c2 _ (hTV.bel hb2) hm2 hd2' hR2 ho2).mono ?_; rintro e w3 ⟨rfl, hb3⟩; have hB3 := bel_tr hb2 hb2.size hb3; have k3 := (kp hB3).1; have s3 := hB3.size; have x3 := Nat.lt_of_lt_of_le hxl s3))
      have hPB := Blk.new w3 48 [.int .i64 0, .int .i64 0, .int .i64 0, .int .i64 0]
      have hBB := bel_alloc hB3 hB3.size (.cells #[.int .i64 0, .int .i64 0, .int .i64 0, .int .i64 0] 48)
      obtain ⟨W, hW⟩ : ∃ W, w3.alloc (.cells #[.int .i64 0, .int .i64 0, .int .i64 0, .int .i64 0] 48) = W := ⟨_, rfl⟩
      rw [hW] at hPB hBB ⊢
      clear hW hb3 hB3 hb2 hR2 ho2 k3
      have c0 := (hBB.cell (p := ⟨w.heap.size, 0, none⟩) hxl).trans c0
      have c1 := (hBB.cell (p := ⟨w.heap.size, 1, none⟩) hxl).trans c1
      have hxW := Nat.lt_of_lt_of_le hxl hBB.size
      have hpW := hPB.lt
      have p0 := hPB.cell 0; have p1 := hPB.cell 1; have p2 := hPB.cell 2; have p3 := hPB.cell 3; simp only [List.getElem?_cons_zero, List.getElem?_cons_succ] at p0 p1 p2 p3
      go_cut [8, 9] from 34 to 40 (fun t8 t9 wx => t8 = .slice none 0 0 ∧ t9 = .int .i64 E ∧ Below W.heap.size W wx)
      case first =>
        go_region_held3 (fun w' => (∀ b o, b < W.heap.size → w'.cell? ⟨b, o, none⟩ = W.cell? ⟨b, o, none⟩) ∧ Below W.heap.size W w')
          ((refine kp ?_; ((repeat' (first | with_reducible exact Below.refl _ _ | with_reducible exact HB5.out | with_reducible exact HB4.out | with_reducible refine Below.drew ?_ | with_reducible refine bel_alloc ?_ ?_ _ | with_reducible refine Below.setCell ?_ ?_ _)); all_goals (first | omega | (simp <;> omega)))))
          (first
            | (go_at_call 25; refine (HCF.out _ (bel_tr hBB hBB.size (by ((repeat' (first | with_reducible exact Below.refl _ _ | with_reducible refine Below.drew ?_ | with_reducible refine bel_alloc ?_ ?_ _ | with_reducible refine Below.setCell ?_ ?_ _)); all_goals (first | omega | (simp <;> omega)))))).mono ?_; rintro e w4 ⟨⟨A4, c4, m4, rfl, hm4, hd4, hR4, ho4⟩, hb4⟩; have HB4 : Hid (Below W.heap.size W w4) := (by refine bel_tr ?_ ?_ hb4; ((repeat' (first | with_reducible exact Below.refl _ _ | with_reducible refine Below.drew ?_ | with_reducible refine bel_alloc ?_ ?_ _ | with_reducible refine Below.setCell ?_ ?_ _)); all_goals (first | omega | (simp <;> omega)))); have s4 := HB4.out.size)
            | (go_at_call 26; refine (HLI.out m4 A4 c4 _ (hTV.bel (bel_tr hBB hBB.size HB4.out)) hm4 hd4 hR4 ho4).mono ?_; rintro e w5 ⟨rfl, hb5⟩; have HB5 : Hid (Below W.heap.size W w5) := (by refine bel_tr ?_ ?_ hb5; ((repeat' (first | with_reducible exact Below.refl _ _ | with_reducible exact HB4.out | with_reducible refine Below.drew ?_ | with_reducible refine bel_alloc ?_ ?_ _ | with_reducible refine Below.setCell ?_ ?_ _)); all_goals (first | omega | (simp <;> omega)))); have s5 := HB5.out.size)
            | fail "no arm")
        all_goals
          go_wp2
          go_meet
          refine ⟨rfl, rfl, ?_⟩
          ((repeat' (first | with_reducible exact Below.refl _ _ | with_reducible exact HB5.out | with_reducible exact HB4.out | with_reducible refine Below.drew ?_ | with_reducible refine bel_alloc ?_ ?_ _ | with_reducible refine Below.setCell ?_ ?_ _)); all_goals (first | omega | (simp <;> omega)))
      obtain ⟨rfl, rfl, hbY⟩ := hcut
      obtain ⟨Y, hY⟩ : ∃ Y, wc = Y := ⟨_, rfl⟩
      rw [hY] at hbY ⊢
      clear hY
      have hVY := bel_tr hBB hBB.size hbY
      have c0 := (hbY.cell (p := ⟨w.heap.size, 0, none⟩) hxW).trans c0
      have c1 := (hbY.cell (p := ⟨w.heap.size, 1, none⟩) hxW).trans c1
      have p0 := (hbY.cell (p := ⟨w3.heap.size, 0, none⟩) hpW).trans p0
      have p1 := (hbY.cell (p := ⟨w3.heap.size, 1, none⟩) hpW).trans p1
      have p2 := (hbY.cell (p := ⟨w3.heap.size, 2, none⟩) hpW).trans p2
      have p3 := (hbY.cell (p := ⟨w3.heap.size, 3, none⟩) hpW).trans p3
      have hxY := Nat.lt_of_lt_of_le hxW hbY.size
      have hpY := Nat.lt_of_lt_of_le hpW hbY.size
      go_wp2_with (first
        | (go_at_call 27; refine (HFE.out _ hVY).mono ?_; rintro e w6 ⟨rfl, hb6⟩; have hB6 := bel_tr hVY hVY.size hb6; have q0 := (hb6.cell (p := ⟨w3.heap.size, 0, none⟩) hpY).trans p0; have q1 := (hb6.cell (p := ⟨w3.heap.size, 1, none⟩) hpY).trans p1; have q2 := (hb6.cell (p := ⟨w3.heap.size, 2, none⟩) hpY).trans p2; have q3 := (hb6.cell (p := ⟨w3.heap.size, 3, none⟩) hpY).trans p3))
      go_ret
      exact ⟨rfl, bel_tr hWV hWV.size hB6⟩

set_option maxHeartbeats 4000000 in
theorem harm_4 (l : List Fr) (F : Option Addr) (c : Nat) (num den : Int) (w : World) (hT : Tab w) (hr : Rd w F (l.map Fr.row).flatten) (hrd : ∀ f ∈ l, f.rd w) (hn1 : -9223372036854775808 ≤ num) (hn2 : num ≤ 9223372036854775807) (hd1 : -9223372036854775808 ≤ den) (hd2 : den ≤ 9223372036854775807) (h1 : l.length ≤ 6) (h2 : ∀ i (h : i < l.length), fewB l[i].samples.length l[i].gaps.length = true) (hE : framesE l = 0) (hR : ratE num den ≠ 0) :
    Calls Tryd.prog 5 #[.slice F l.length c, .agg #[.int .i64 num, .int .i64 den]] w fun r w' => r = .returned (.bool true) ∧ Below w.heap.size w w' := by
  have d6 : decide ((6 : Int) < (l.length : Int)) = false := by simp; omega
  have HFW := hide h2
  have hok : ∀ f ∈ l, f.ok w := fun f hf => by
    obtain ⟨i, hi, rfl⟩ := List.getElem_of_mem hf
    have := h2 i hi
    unfold fewB at this
    have := of_decide_eq_true this
    exact ⟨(hrd _ hf).1, (hrd _ hf).2, by omega, by omega⟩
  clear h2
  go_enter Tryd.func5, Tryd.ntmps5
  go_wp2_with (first
    | (go_at_call 9; refine (awake_c _ (hT.bel (alloc_bel _ _))).mono ?_; rintro e w1 ⟨rfl, hb1⟩; have hX1 := (Blk.new w 43 [.int .i64 num, .int .i64 den]).bel hb1; have hW1 : Below w.heap.size w w1 := tr (alloc_bel _ _) hb1 (by simp)))
  have hR1 := hr.bel hW1
  go_loopw [5] (fun i wr => ∃ k : Nat, k ≤ l.length ∧ i = .int .i64 k ∧ Below w1.heap.size w1 wr ∧ ∀ i (h : i < l.length), i < k → fewB l[i].samples.length l[i].gaps.length = true) (fun i _ => l.length - (intOf i).toNat)
  case atStart => exact ⟨0, Nat.zero_le _, rfl, Below.refl _ _, fun i _ h => by omega⟩
  case round =>
    obtain ⟨k, hk, rfl, hbr, hall⟩ := hrel
    have HALL := hide hall
    clear hall
    by_cases hlt : k < l.length
    · obtain ⟨bF, oF, rfl, hbF, s0, s1, s2, s3⟩ := hR1.fr_at hlt
      have s0 := (hbr.cell (p := ⟨bF, _, none⟩) hbF).trans s0
      have s1 := (hbr.cell (p := ⟨bF, _, none⟩) hbF).trans s1
      have s2 := (hbr.cell (p := ⟨bF, _, none⟩) hbF).trans s2
      have s3 := (hbr.cell (p := ⟨bF, _, none⟩) hbF).trans s3
      have ix0 : (0 : Int) ≤ (k : Int) := by omega
      have ix1 : (k : Int) < (l.length : Int) := by omega
      · skip
        have HB := hide (HFW.out k hlt)
        have H2 : Hid (∀ i (h : i < l.length), i < k + 1 → fewB l[i].samples.length l[i].gaps.length = true) := fun i h _ => HFW.out i h
        generalize l[k].gain = fg at s0
        generalize l[k].limit = fl at s1
        generalize l[k].A = fA at s2
        generalize l[k].cA = fcA at s2
        generalize l[k].G = fG at s3
        generalize l[k].cG = fcG at s3
        generalize l[k].samples.length = fs at s2 HB
        generalize l[k].gaps.length = fgs at s3 HB
        go_wp2_with (first
    | (go_at_call 23; refine (fewFrame_c _ _ _ _ _ _ _ _ _).mono ?_; rintro e w6 ⟨rfl, hb6⟩; rw [HB.out]))
        go_roundw
        case rel => exact ⟨k + 1, by omega, by go_num, bel_tr hbr hbr.size hb6, H2.out⟩
        case measure => simp [intOf]; omega
    · obtain rfl : k = l.length := by omega
      obtain ⟨V, hV⟩ : ∃ V, wr = V := ⟨_, rfl⟩
      rw [hV] at hbr ⊢
      clear hV
      have hWV := bel_tr hW1 hW1.size hbr
      have hXV := hX1.bel hbr
      have hxl := hXV.lt
      have c0 := hXV.cell 0; have c1 := hXV.cell 1; simp only [List.getElem?_cons_zero, List.getElem?_cons_succ] at c0 c1
      have hRV := hr.bel hWV
      have hTV := hT.bel hWV
      have hoV : ∀ f ∈ l, f.ok V := fun f hf => (hok f hf).bel hWV
      have HCF := hide (fun W (h : Below V.heap.size V W) => refCopyFrames_c l F c W (hRV.bel h) (fun f hf => (hoV f hf).bel h) (by omega))
      have HFE := hide (fun W (h : Below V.heap.size V W) => refFramesErr_c l F c W (hRV.bel h) (fun f hf => (hoV f hf).bel h) (by omega))
      have HPO := hide (fun (m : List Fr) (A : Option Addr) (c : Nat) (W : World) (hT : Tab W) (hl : m.length = l.length) (hd : m.map Fr.dat = l.map Fr.dat) (hr : Rd W A (m.map Fr.row).flatten) (ho : ∀ f ∈ m, f.ok W) => show Calls Tryd.prog 24 #[.slice A l.length c] W fun r w' => r = .returned (.tuple #[.agg #[.int .i64 (powSum l 0), .int .i64 (powSum l 1), .int .i64 (powSum l 2), .int .i64 (powSum l 3)], .int .i64 0]) ∧ Below W.heap.size W w' from by
        have h := powersOf_c m A c W hT hr ho (by omega)
        rw [hl, framesE_dat hd, powSum_dat hd] at h
        refine h.mono fun r w' k => ⟨?_, k.2⟩
        rcases k.1 with ⟨k, _⟩ | ⟨_, k⟩
        · exact absurd hE k
        · exact k)
      obtain ⟨_, hl4, herr⟩ := framesE_zero hE
      have HRP := hide (fun W (h : Below V.heap.size V W) => refPowersOf_c l F c W (hRV.bel h) (fun f hf => (hoV f hf).bel h) herr hl4)
      have HRA := hide (fun W => refRatioErr_c num den W hn1 hn2 hd1 hd2)
      have HLI := hide (fun (m : List Fr) (A : Option Addr) (c : Nat) (W : World) (hT : Tab W) (hl : m.length = l.length) (hd : m.map Fr.dat = l.map Fr.dat) (hr : Rd W A (m.map Fr.row).flatten) (ho : ∀ f ∈ m, f.ok W) => show Calls Tryd.prog 26 #[.slice A l.length c, .agg #[.int .i64 num, .int .i64 den]] W fun r w' => r = .returned (.tuple #[.slice none 0 0, .int .i64 (ratE num den)]) ∧ Below W.heap.size W w' from by
        have e : linE m num den = ratE num den := by unfold linE; rw [framesE_dat hd, hE]; unfold firstE; rw [if_pos rfl]; unfold firstE; rw [if_neg hR]
        have h := linesIn_err m A c num den W hT hr ho (by omega) (by rw [e]; exact hR)
        rw [hl, e] at h
        exact h)
      have e1 : (ratE num den != 0) = true := by simpa using hR
      rw [hE] at HFE
      clear hE hoV hrd hR herr hl4
      generalize ratE num den = E at HLI HRA e1
      generalize powSum l = T at HPO HRP
      have eg : Tryd.prog.eqGuardType Tryd.prog.depth 48 = false := by kernel_rfl
      have eqT : ∀ W, Sem.run Tryd.prog (binOp .neq 48 (.agg #[.int .i64 (T 0), .int .i64 (T 1), .int .i64 (T 2), .int .i64 (T 3)]) (.agg #[.int .i64 (T 0), .int .i64 (T 1), .int .i64 (T 2), .int .i64 (T 3)])) W = .ok (.bool false) W := fun W => by
        rw [run_ne4]; simp

      clear hR1 hr hok hT hX1 hb1
      go_upto_region 11 with (first
        | (go_at_call 25; refine (HCF.out _ (Below.refl _ _)).mono ?_; rintro e w2 ⟨⟨A2, c2, m2, rfl, hm2, hd2', hR2, ho2⟩, hb2⟩)
        | (go_at_call 24; refine (HPO.out m2 A2 c2 _ (hTV.bel hb2) hm2 hd2' hR2 ho2).mono ?_; rintro e w3 ⟨rfl, hb3⟩; have hB3 := bel_tr hb2 hb2.size hb3; have k3 := (kp hB3).1; have s3 := hB3.size; have x3 := Nat.lt_of_lt_of_le hxl s3))
      have hPB := Blk.new w3 48 [.int .i64 (T 0), .int .i64 (T 1), .int .i64 (T 2), .int .i64 (T 3)]
      have hBB := bel_alloc hB3 hB3.size (.cells #[.int .i64 (T 0), .int .i64 (T 1), .int .i64 (T 2), .int .i64 (T 3)] 48)
      obtain ⟨W, hW⟩ : ∃ W, w3.alloc (.cells #[.int .i64 (T 0), .int .i64 (T 1), .int .i64 (T 2), .int .i64 (T 3)] 48) = W := ⟨_, rfl⟩
      rw [hW] at hPB hBB ⊢
      clear hW hb3 hB3 hb2 hR2 ho2 k3
      have c0 := (hBB.cell (p := ⟨w.heap.size, 0, none⟩) hxl).trans c0
      have c1 := (hBB.cell (p := ⟨w.heap.size, 1, none⟩) hxl).trans c1
      have hxW := Nat.lt_of_lt_of_le hxl hBB.size
      have hpW := hPB.lt
      have p0 := hPB.cell 0; have p1 := hPB.cell 1; have p2 := hPB.cell 2; have p3 := hPB.cell 3; simp only [List.getElem?_cons_zero, List.getElem?_cons_succ] at p0 p1 p2 p3
      go_cut [8, 9] from 34 to 40 (fun t8 t9 wx => t8 = .slice none 0 0 ∧ t9 = .int .i64 E ∧ Below W.heap.size W wx)
      case first =>
        go_region_held3 (fun w' => (∀ b o, b < W.heap.size → w'.cell? ⟨b, o, none⟩ = W.cell? ⟨b, o, none⟩) ∧ Below W.heap.size W w')
          ((refine kp ?_; ((repeat' (first | with_reducible exact Below.refl _ _ | with_reducible exact HB5.out | with_reducible exact HB4.out | with_reducible refine Below.drew ?_ | with_reducible refine bel_alloc ?_ ?_ _ | with_reducible refine Below.setCell ?_ ?_ _)); all_goals (first | omega | (simp <;> omega)))))
          (first
            | (go_at_call 25; refine (HCF.out _ (bel_tr hBB hBB.size (by ((repeat' (first | with_reducible exact Below.refl _ _ | with_reducible refine Below.drew ?_ | with_reducible refine bel_alloc ?_ ?_ _ | with_reducible refine Below.setCell ?_ ?_ _)); all_goals (first | omega | (simp <;> omega)))))).mono ?_; rintro e w4 ⟨⟨A4, c4, m4, rfl, hm4, hd4, hR4, ho4⟩, hb4⟩; have HB4 : Hid (Below W.heap.size W w4) := (by refine bel_tr ?_ ?_ hb4; ((repeat' (first | with_reducible exact Below.refl _ _ | with_reducible refine Below.drew ?_ | with_reducible refine bel_alloc ?_ ?_ _ | with_reducible refine Below.setCell ?_ ?_ _)); all_goals (first | omega | (simp <;> omega)))); have s4 := HB4.out.size)
            | (go_at_call 26; refine (HLI.out m4 A4 c4 _ (hTV.bel (bel_tr hBB hBB.size HB4.out)) hm4 hd4 hR4 ho4).mono ?_; rintro e w5 ⟨rfl, hb5⟩; have HB5 : Hid (Below W.heap.size W w5) := (by refine bel_tr ?_ ?_ hb5; ((repeat' (first | with_reducible exact Below.refl _ _ | with_reducible exact HB4.out | with_reducible refine Below.drew ?_ | with_reducible refine bel_alloc ?_ ?_ _ | with_reducible refine Below.setCell ?_ ?_ _)); all_goals (first | omega | (simp <;> omega)))); have s5 := HB5.out.size)
            | fail "no arm")
        all_goals
          go_wp2
          go_meet
          refine ⟨rfl, rfl, ?_⟩
          ((repeat' (first | with_reducible exact Below.refl _ _ | with_reducible exact HB5.out | with_reducible exact HB4.out | with_reducible refine Below.drew ?_ | with_reducible refine bel_alloc ?_ ?_ _ | with_reducible refine Below.setCell ?_ ?_ _)); all_goals (first | omega | (simp <;> omega)))
      obtain ⟨rfl, rfl, hbY⟩ := hcut
      obtain ⟨Y, hY⟩ : ∃ Y, wc = Y := ⟨_, rfl⟩
      rw [hY] at hbY ⊢
      clear hY
      have hVY := bel_tr hBB hBB.size hbY
      have c0 := (hbY.cell (p := ⟨w.heap.size, 0, none⟩) hxW).trans c0
      have c1 := (hbY.cell (p := ⟨w.heap.size, 1, none⟩) hxW).trans c1
      have p0 := (hbY.cell (p := ⟨w3.heap.size, 0, none⟩) hpW).trans p0
      have p1 := (hbY.cell (p := ⟨w3.heap.size, 1, none⟩) hpW).trans p1
      have p2 := (hbY.cell (p := ⟨w3.heap.size, 2, none⟩) hpW).trans p2
      have p3 := (hbY.cell (p := ⟨w3.heap.size, 3, none⟩) hpW).trans p3
      have hxY := Nat.lt_of_lt_of_le hxW hbY.size
      have hpY := Nat.lt_of_lt_of_le hpW hbY.size
      go_upto_region 15 with (first
        | (go_at_call 27; refine (HFE.out _ hVY).mono ?_; rintro e w6 ⟨rfl, hb6⟩))
      have hB6 := bel_tr hVY hVY.size hb6
      have c0 := (hb6.cell (p := ⟨w.heap.size, 0, none⟩) hxY).trans c0
      have c1 := (hb6.cell (p := ⟨w.heap.size, 1, none⟩) hxY).trans c1
      have p0 := (hb6.cell (p := ⟨w3.heap.size, 0, none⟩) hpY).trans p0
      have p1 := (hb6.cell (p := ⟨w3.heap.size, 1, none⟩) hpY).trans p1
      have p2 := (hb6.cell (p := ⟨w3.heap.size, 2, none⟩) hpY).trans p2
      have p3 := (hb6.cell (p := ⟨w3.heap.size, 3, none⟩) hpY).trans p3
      have hx6 := Nat.lt_of_lt_of_le hxY hb6.size
      have hp6 := Nat.lt_of_lt_of_le hpY hb6.size
      go_cut [70] from 63 to 70 (fun t wx => t = .bool false ∧ Below w6.heap.size w6 wx)
      case first =>
        go_region_held3 (fun w' => (∀ b o, b < w6.heap.size → w'.cell? ⟨b, o, none⟩ = w6.cell? ⟨b, o, none⟩) ∧ Below w6.heap.size w6 w')
          ((refine kp ?_; ((repeat' (first | with_reducible exact Below.refl _ _ | with_reducible exact HB7.out | with_reducible refine Below.drew ?_ | with_reducible refine bel_alloc ?_ ?_ _ | with_reducible refine Below.setCell ?_ ?_ _)); all_goals (first | omega | (simp <;> omega)))))
          (first
            | (go_at_call 28; refine (HRP.out _ (bel_tr hB6 hB6.size (by ((repeat' (first | with_reducible exact Below.refl _ _ | with_reducible refine Below.drew ?_ | with_reducible refine bel_alloc ?_ ?_ _ | with_reducible refine Below.setCell ?_ ?_ _)); all_goals (first | omega | (simp <;> omega)))))).mono ?_; rintro e w7 ⟨rfl, hb7⟩; have HB7 : Hid (Below w6.heap.size w6 w7) := (by refine bel_tr ?_ ?_ hb7; ((repeat' (first | with_reducible exact Below.refl _ _ | with_reducible refine Below.drew ?_ | with_reducible refine bel_alloc ?_ ?_ _ | with_reducible refine Below.setCell ?_ ?_ _)); all_goals (first | omega | (simp <;> omega)))); have s7 := HB7.out.size)
            | fail "no arm")
        all_goals
          go_wp2
          go_meet
          refine ⟨rfl, ?_⟩
          ((repeat' (first | with_reducible exact Below.refl _ _ | with_reducible exact HB7.out | with_reducible refine Below.drew ?_ | with_reducible refine bel_alloc ?_ ?_ _ | with_reducible refine Below.setCell ?_ ?_ _)); all_goals (first | omega | (simp <;> omega)))
      obtain ⟨rfl, hbZ⟩ := hcut
      obtain ⟨Z, hZ⟩ : ∃ Z, wc = Z := ⟨_, rfl⟩
      rw [hZ] at hbZ ⊢
      clear hZ
      have hVZ := bel_tr hB6 hB6.size hbZ
      have c0 := (hbZ.cell (p := ⟨w.heap.size, 0, none⟩) hx6).trans c0
      have c1 := (hbZ.cell (p := ⟨w.heap.size, 1, none⟩) hx6).trans c1
      have hxZ := Nat.lt_of_lt_of_le hx6 hbZ.size
      go_wp2_with (first
        | (go_at_call 29; refine (HRA.out _).mono ?_; rintro e w8 ⟨rfl, hb8⟩))
      go_ret
      exact ⟨rfl, bel_tr hWV hWV.size (bel_tr hVZ hVZ.size hb8)⟩

set_option maxHeartbeats 4000000 in
theorem harm_5 (l : List Fr) (F : Option Addr) (c : Nat) (num den : Int) (w : World) (hT : Tab w) (hr : Rd w F (l.map Fr.row).flatten) (hrd : ∀ f ∈ l, f.rd w) (hn1 : -9223372036854775808 ≤ num) (hn2 : num ≤ 9223372036854775807) (hd1 : -9223372036854775808 ≤ den) (hd2 : den ≤ 9223372036854775807) (h1 : l.length ≤ 6) (h2 : ∀ i (h : i < l.length), fewB l[i].samples.length l[i].gaps.length = true) (hE : framesE l = 0) (hR : ratE num den = 0) :
    Calls Tryd.prog 5 #[.slice F l.length c, .agg #[.int .i64 num, .int .i64 den]] w fun r w' => r = .returned (.bool true) ∧ Below w.heap.size w w' := by
  have d6 : decide ((6 : Int) < (l.length : Int)) = false := by simp; omega
  have HFW := hide h2
  have hok : ∀ f ∈ l, f.ok w := fun f hf => by
    obtain ⟨i, hi, rfl⟩ := List.getElem_of_mem hf
    have := h2 i hi
    unfold fewB at this
    have := of_decide_eq_true this
    exact ⟨(hrd _ hf).1, (hrd _ hf).2, by omega, by omega⟩
  clear h2
  go_enter Tryd.func5, Tryd.ntmps5
  go_wp2_with (first
    | (go_at_call 9; refine (awake_c _ (hT.bel (alloc_bel _ _))).mono ?_; rintro e w1 ⟨rfl, hb1⟩; have hX1 := (Blk.new w 43 [.int .i64 num, .int .i64 den]).bel hb1; have hW1 : Below w.heap.size w w1 := tr (alloc_bel _ _) hb1 (by simp)))
  have hR1 := hr.bel hW1
  go_loopw [5] (fun i wr => ∃ k : Nat, k ≤ l.length ∧ i = .int .i64 k ∧ Below w1.heap.size w1 wr ∧ ∀ i (h : i < l.length), i < k → fewB l[i].samples.length l[i].gaps.length = true) (fun i _ => l.length - (intOf i).toNat)
  case atStart => exact ⟨0, Nat.zero_le _, rfl, Below.refl _ _, fun i _ h => by omega⟩
  case round =>
    obtain ⟨k, hk, rfl, hbr, hall⟩ := hrel
    have HALL := hide hall
    clear hall
    by_cases hlt : k < l.length
    · obtain ⟨bF, oF, rfl, hbF, s0, s1, s2, s3⟩ := hR1.fr_at hlt
      have s0 := (hbr.cell (p := ⟨bF, _, none⟩) hbF).trans s0
      have s1 := (hbr.cell (p := ⟨bF, _, none⟩) hbF).trans s1
      have s2 := (hbr.cell (p := ⟨bF, _, none⟩) hbF).trans s2
      have s3 := (hbr.cell (p := ⟨bF, _, none⟩) hbF).trans s3
      have ix0 : (0 : Int) ≤ (k : Int) := by omega
      have ix1 : (k : Int) < (l.length : Int) := by omega
      · skip
        have HB := hide (HFW.out k hlt)
        have H2 : Hid (∀ i (h : i < l.length), i < k + 1 → fewB l[i].samples.length l[i].gaps.length = true) := fun i h _ => HFW.out i h
        generalize l[k].gain = fg at s0
        generalize l[k].limit = fl at s1
        generalize l[k].A = fA at s2
        generalize l[k].cA = fcA at s2
        generalize l[k].G = fG at s3
        generalize l[k].cG = fcG at s3
        generalize l[k].samples.length = fs at s2 HB
        generalize l[k].gaps.length = fgs at s3 HB
        go_wp2_with (first
    | (go_at_call 23; refine (fewFrame_c _ _ _ _ _ _ _ _ _).mono ?_; rintro e w6 ⟨rfl, hb6⟩; rw [HB.out]))
        go_roundw
        case rel => exact ⟨k + 1, by omega, by go_num, bel_tr hbr hbr.size hb6, H2.out⟩
        case measure => simp [intOf]; omega
    · obtain rfl : k = l.length := by omega
      obtain ⟨V, hV⟩ : ∃ V, wr = V := ⟨_, rfl⟩
      rw [hV] at hbr ⊢
      clear hV
      have hWV := bel_tr hW1 hW1.size hbr
      have hXV := hX1.bel hbr
      have hxl := hXV.lt
      have c0 := hXV.cell 0; have c1 := hXV.cell 1; simp only [List.getElem?_cons_zero, List.getElem?_cons_succ] at c0 c1
      have hRV := hr.bel hWV
      have hTV := hT.bel hWV
      have hoV : ∀ f ∈ l, f.ok V := fun f hf => (hok f hf).bel hWV
      have HCF := hide (fun W (h : Below V.heap.size V W) => refCopyFrames_c l F c W (hRV.bel h) (fun f hf => (hoV f hf).bel h) (by omega))
      have HFE := hide (fun W (h : Below V.heap.size V W) => refFramesErr_c l F c W (hRV.bel h) (fun f hf => (hoV f hf).bel h) (by omega))
      have HPO := hide (fun (m : List Fr) (A : Option Addr) (c : Nat) (W : World) (hT : Tab W) (hl : m.length = l.length) (hd : m.map Fr.dat = l.map Fr.dat) (hr : Rd W A (m.map Fr.row).flatten) (ho : ∀ f ∈ m, f.ok W) => show Calls Tryd.prog 24 #[.slice A l.length c] W fun r w' => r = .returned (.tuple #[.agg #[.int .i64 (powSum l 0), .int .i64 (powSum l 1), .int .i64 (powSum l 2), .int .i64 (powSum l 3)], .int .i64 0]) ∧ Below W.heap.size W w' from by
        have h := powersOf_c m A c W hT hr ho (by omega)
        rw [hl, framesE_dat hd, powSum_dat hd] at h
        refine h.mono fun r w' k => ⟨?_, k.2⟩
        rcases k.1 with ⟨k, _⟩ | ⟨_, k⟩
        · exact absurd hE k
        · exact k)
      obtain ⟨_, hl4, herr⟩ := framesE_zero hE
      have HRP := hide (fun W (h : Below V.heap.size V W) => refPowersOf_c l F c W (hRV.bel h) (fun f hf => (hoV f hf).bel h) herr hl4)
      have HRA := hide (fun W => refRatioErr_c num den W hn1 hn2 hd1 hd2)
      have hL : linE l num den = 0 := by unfold linE; rw [hE, hR]; rfl
      have HLI := hide (fun (m : List Fr) (A : Option Addr) (c : Nat) (W : World) (hT : Tab W) (hl : m.length = l.length) (hd : m.map Fr.dat = l.map Fr.dat) (hr : Rd W A (m.map Fr.row).flatten) (ho : ∀ f ∈ m, f.ok W) => show Calls Tryd.prog 26 #[.slice A l.length c, .agg #[.int .i64 num, .int .i64 den]] W fun r w' => (∃ A' c', r = .returned (.tuple #[.slice A' (linTo (powSum l 0 + powSum l 1 + powSum l 2 + powSum l 3) (powSum l) num den 4).length c', .int .i64 0]) ∧ RdT w' 3 A' (ints (linTo (powSum l 0 + powSum l 1 + powSum l 2 + powSum l 3) (powSum l) num den 4))) ∧ Below W.heap.size W w' from by
        have e : linE m num den = 0 := by unfold linE; rw [framesE_dat hd, hE, hR]; rfl
        have h := linesIn_ok m A c num den W hT hr ho (by omega) e
        rw [hl, powSum_dat hd] at h
        exact h)
      have HRL := hide (fun W (h : Below V.heap.size V W) => refLinesIn_c l F c num den W (hRV.bel h) (fun f hf => (hoV f hf).bel h) hL)
      have hll := linTo_le (powSum l 0 + powSum l 1 + powSum l 2 + powSum l 3) (powSum l) num den 4
      rw [hE] at HFE
      rw [hR] at HRA
      clear hE hoV hrd hR herr hl4 hL
      generalize linTo (powSum l 0 + powSum l 1 + powSum l 2 + powSum l 3) (powSum l) num den 4 = L at HLI HRL hll
      generalize powSum l = T at HPO HRP
      have eg : Tryd.prog.eqGuardType Tryd.prog.depth 48 = false := by kernel_rfl
      have eqT : ∀ W, Sem.run Tryd.prog (binOp .neq 48 (.agg #[.int .i64 (T 0), .int .i64 (T 1), .int .i64 (T 2), .int .i64 (T 3)]) (.agg #[.int .i64 (T 0), .int .i64 (T 1), .int .i64 (T 2), .int .i64 (T 3)])) W = .ok (.bool false) W := fun W => by
        rw [run_ne4]; simp

      clear hR1 hr hok hT hX1 hb1
      go_upto_region 11 with (first
        | (go_at_call 25; refine (HCF.out _ (Below.refl _ _)).mono ?_; rintro e w2 ⟨⟨A2, c2, m2, rfl, hm2, hd2', hR2, ho2⟩, hb2⟩)
        | (go_at_call 24; refine (HPO.out m2 A2 c2 _ (hTV.bel hb2) hm2 hd2' hR2 ho2).mono ?_; rintro e w3 ⟨rfl, hb3⟩; have hB3 := bel_tr hb2 hb2.size hb3; have k3 := (kp hB3).1; have s3 := hB3.size; have x3 := Nat.lt_of_lt_of_le hxl s3))
      have hPB := Blk.new w3 48 [.int .i64 (T 0), .int .i64 (T 1), .int .i64 (T 2), .int .i64 (T 3)]
      have hBB := bel_alloc hB3 hB3.size (.cells #[.int .i64 (T 0), .int .i64 (T 1), .int .i64 (T 2), .int .i64 (T 3)] 48)
      obtain ⟨W, hW⟩ : ∃ W, w3.alloc (.cells #[.int .i64 (T 0), .int .i64 (T 1), .int .i64 (T 2), .int .i64 (T 3)] 48) = W := ⟨_, rfl⟩
      rw [hW] at hPB hBB ⊢
      clear hW hb3 hB3 hb2 hR2 ho2 k3
      have c0 := (hBB.cell (p := ⟨w.heap.size, 0, none⟩) hxl).trans c0
      have c1 := (hBB.cell (p := ⟨w.heap.size, 1, none⟩) hxl).trans c1
      have hxW := Nat.lt_of_lt_of_le hxl hBB.size
      have hpW := hPB.lt
      have p0 := hPB.cell 0; have p1 := hPB.cell 1; have p2 := hPB.cell 2; have p3 := hPB.cell 3; simp only [List.getElem?_cons_zero, List.getElem?_cons_succ] at p0 p1 p2 p3
      go_cut [8, 9] from 34 to 40 (fun t8 t9 wx => (∃ A5 c5, t8 = .slice A5 L.length c5 ∧ RdT wx 3 A5 (ints L)) ∧ t9 = .int .i64 0 ∧ Below W.heap.size W wx)
      case first =>
        go_region_held3 (fun w' => (∀ b o, b < W.heap.size → w'.cell? ⟨b, o, none⟩ = W.cell? ⟨b, o, none⟩) ∧ Below W.heap.size W w')
          ((refine kp ?_; ((repeat' (first | with_reducible exact Below.refl _ _ | with_reducible exact HB5.out | with_reducible exact HB4.out | with_reducible refine Below.drew ?_ | with_reducible refine bel_alloc ?_ ?_ _ | with_reducible refine Below.setCell ?_ ?_ _)); all_goals (first | omega | (simp <;> omega)))))
          (first
            | (go_at_call 25; refine (HCF.out _ (bel_tr hBB hBB.size (by ((repeat' (first | with_reducible exact Below.refl _ _ | with_reducible refine Below.drew ?_ | with_reducible refine bel_alloc ?_ ?_ _ | with_reducible refine Below.setCell ?_ ?_ _)); all_goals (first | omega | (simp <;> omega)))))).mono ?_; rintro e w4 ⟨⟨A4, c4, m4, rfl, hm4, hd4, hR4, ho4⟩, hb4⟩; have HB4 : Hid (Below W.heap.size W w4) := (by refine bel_tr ?_ ?_ hb4; ((repeat' (first | with_reducible exact Below.refl _ _ | with_reducible refine Below.drew ?_ | with_reducible refine bel_alloc ?_ ?_ _ | with_reducible refine Below.setCell ?_ ?_ _)); all_goals (first | omega | (simp <;> omega)))); have s4 := HB4.out.size)
            | (go_at_call 26; refine (HLI.out m4 A4 c4 _ (hTV.bel (bel_tr hBB hBB.size HB4.out)) hm4 hd4 hR4 ho4).mono ?_; rintro e w5 ⟨⟨A5, c5, rfl, hL5⟩, hb5⟩; have HB5 : Hid (Below W.heap.size W w5) := (by refine bel_tr ?_ ?_ hb5; ((repeat' (first | with_reducible exact Below.refl _ _ | with_reducible exact HB4.out | with_reducible refine Below.drew ?_ | with_reducible refine bel_alloc ?_ ?_ _ | with_reducible refine Below.setCell ?_ ?_ _)); all_goals (first | omega | (simp <;> omega)))); have s5 := HB5.out.size)
            | fail "no arm")
        all_goals
          go_wp2
          go_meet
          refine ⟨⟨A5, c5, rfl, hL5⟩, rfl, ?_⟩
          ((repeat' (first | with_reducible exact Below.refl _ _ | with_reducible exact HB5.out | with_reducible exact HB4.out | with_reducible refine Below.drew ?_ | with_reducible refine bel_alloc ?_ ?_ _ | with_reducible refine Below.setCell ?_ ?_ _)); all_goals (first | omega | (simp <;> omega)))
      obtain ⟨⟨A5, c5, rfl, hL5⟩, rfl, hbY⟩ := hcut
      obtain ⟨Y, hY⟩ : ∃ Y, wc = Y := ⟨_, rfl⟩
      rw [hY] at hbY hL5 ⊢
      clear hY
      have hVY := bel_tr hBB hBB.size hbY
      have c0 := (hbY.cell (p := ⟨w.heap.size, 0, none⟩) hxW).trans c0
      have c1 := (hbY.cell (p := ⟨w.heap.size, 1, none⟩) hxW).trans c1
      have p0 := (hbY.cell (p := ⟨w3.heap.size, 0, none⟩) hpW).trans p0
      have p1 := (hbY.cell (p := ⟨w3.heap.size, 1, none⟩) hpW).trans p1
      have p2 := (hbY.cell (p := ⟨w3.heap.size, 2, none⟩) hpW).trans p2
      have p3 := (hbY.cell (p := ⟨w3.heap.size, 3, none⟩) hpW).trans p3
      have hxY := Nat.lt_of_lt_of_le hxW hbY.size
      have hpY := Nat.lt_of_lt_of_le hpW hbY.size
      go_upto_region 15 with (first
        | (go_at_call 27; refine (HFE.out _ hVY).mono ?_; rintro e w6 ⟨rfl, hb6⟩))
      have hB6 := bel_tr hVY hVY.size hb6
      have c0 := (hb6.cell (p := ⟨w.heap.size, 0, none⟩) hxY).trans c0
      have c1 := (hb6.cell (p := ⟨w.heap.size, 1, none⟩) hxY).trans c1
      have p0 := (hb6.cell (p := ⟨w3.heap.size, 0, none⟩) hpY).trans p0
      have p1 := (hb6.cell (p := ⟨w3.heap.size, 1, none⟩) hpY).trans p1
      have p2 := (hb6.cell (p := ⟨w3.heap.size, 2, none⟩) hpY).trans p2
      have p3 := (hb6.cell (p := ⟨w3.heap.size, 3, none⟩) hpY).trans p3
      have hx6 := Nat.lt_of_lt_of_le hxY hb6.size
      have hp6 := Nat.lt_of_lt_of_le hpY hb6.size
      go_cut [70] from 63 to 70 (fun t wx => t = .bool false ∧ Below w6.heap.size w6 wx)
      case first =>
        go_region_held3 (fun w' => (∀ b o, b < w6.heap.size → w'.cell? ⟨b, o, none⟩ = w6.cell? ⟨b, o, none⟩) ∧ Below w6.heap.size w6 w')
          ((refine kp ?_; ((repeat' (first | with_reducible exact Below.refl _ _ | with_reducible exact HB7.out | with_reducible refine Below.drew ?_ | with_reducible refine bel_alloc ?_ ?_ _ | with_reducible refine Below.setCell ?_ ?_ _)); all_goals (first | omega | (simp <;> omega)))))
          (first
            | (go_at_call 28; refine (HRP.out _ (bel_tr hB6 hB6.size (by ((repeat' (first | with_reducible exact Below.refl _ _ | with_reducible refine Below.drew ?_ | with_reducible refine bel_alloc ?_ ?_ _ | with_reducible refine Below.setCell ?_ ?_ _)); all_goals (first | omega | (simp <;> omega)))))).mono ?_; rintro e w7 ⟨rfl, hb7⟩; have HB7 : Hid (Below w6.heap.size w6 w7) := (by refine bel_tr ?_ ?_ hb7; ((repeat' (first | with_reducible exact Below.refl _ _ | with_reducible refine Below.drew ?_ | with_reducible refine bel_alloc ?_ ?_ _ | with_reducible refine Below.setCell ?_ ?_ _)); all_goals (first | omega | (simp <;> omega)))); have s7 := HB7.out.size)
            | fail "no arm")
        all_goals
          go_wp2
          go_meet
          refine ⟨rfl, ?_⟩
          ((repeat' (first | with_reducible exact Below.refl _ _ | with_reducible exact HB7.out | with_reducible refine Below.drew ?_ | with_reducible refine bel_alloc ?_ ?_ _ | with_reducible refine Below.setCell ?_ ?_ _)); all_goals (first | omega | (simp <;> omega)))
      obtain ⟨rfl, hbZ⟩ := hcut
      obtain ⟨Z, hZ⟩ : ∃ Z, wc = Z := ⟨_, rfl⟩
      rw [hZ] at hbZ ⊢
      clear hZ
      have hVZ := bel_tr hB6 hB6.size hbZ
      have c0 := (hbZ.cell (p := ⟨w.heap.size, 0, none⟩) hx6).trans c0
      have c1 := (hbZ.cell (p := ⟨w.heap.size, 1, none⟩) hx6).trans c1
      have hxZ := Nat.lt_of_lt_of_le hx6 hbZ.size
      have hL8 := (hL5.bel hb6).bel hbZ
      go_wp2_with (first
        | (go_at_call 29; refine (HRA.out _).mono ?_; rintro e w8 ⟨rfl, hb8⟩; have hB8 := bel_tr hVZ hVZ.size hb8; have y0 := (hb8.cell (p := ⟨w.heap.size, 0, none⟩) hxZ).trans c0; have y1 := (hb8.cell (p := ⟨w.heap.size, 1, none⟩) hxZ).trans c1)
        | (go_at_call 31; refine (HRL.out _ hB8).mono ?_; rintro e w9 ⟨⟨A9, c9, rfl, hL9⟩, hb9⟩)
        | (go_at_call 30; refine (ints_eq L A5 A9 c5 c9 _ ((hL8.bel hb8).bel hb9).1 hL9.1 (by omega)).mono ?_; rintro e w10 ⟨rfl, hb10⟩))
      go_ret
      exact ⟨rfl, bel_tr hWV hWV.size (bel_tr (bel_tr hB8 hB8.size hb9) (bel_tr hB8 hB8.size hb9).size hb10)⟩

theorem harmonics_c (l : List Fr) (F : Option Addr) (c : Nat) (num den : Int) (w : World) (hT : Tab w) (hr : Rd w F (l.map Fr.row).flatten) (hrd : ∀ f ∈ l, f.rd w) (hn1 : -9223372036854775808 ≤ num) (hn2 : num ≤ 9223372036854775807) (hd1 : -9223372036854775808 ≤ den) (hd2 : den ≤ 9223372036854775807) :
    Calls Tryd.prog 5 #[.slice F l.length c, .agg #[.int .i64 num, .int .i64 den]] w fun r w' => r = .returned (.bool true) ∧ Below w.heap.size w w' := by
  by_cases h1 : l.length ≤ 6
  · by_cases h2 : ∀ i (h : i < l.length), fewB l[i].samples.length l[i].gaps.length = true
    · by_cases hE : framesE l = 0
      · by_cases hR : ratE num den = 0
        · exact harm_5 l F c num den w hT hr hrd hn1 hn2 hd1 hd2 h1 h2 hE hR
        · exact harm_4 l F c num den w hT hr hrd hn1 hn2 hd1 hd2 h1 h2 hE hR
      · exact harm_3 l F c num den w hT hr hrd h1 h2 hE
    · exact harm_2 l F c num den w hT hr hrd h1 h2
  · exact harm_1 l F c num den w hT hr hrd (by omega)
end Go.Proofs.YtdpcehlakhahiaaDoor
