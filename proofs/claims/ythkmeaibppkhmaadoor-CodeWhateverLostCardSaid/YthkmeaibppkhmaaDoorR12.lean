/- Contracts: the check of a line, as the reference has it. -/
import Derived.Test.YthkmeaibppkhmaaDoorR11
namespace Go.Proofs.YthkmeaibppkhmaaDoor
open Go.RowKit
set_option maxRecDepth 100000

theorem lineE_good {vals : List (Int × Int)} {miss : List Int} (h : lineHd vals.length miss.length = 0) (h0 : ∀ j (hj : j < vals.length), lineItem miss j vals[j] = 0) : lineE vals miss = 0 := by
  have e : firstBadFrom (lineItem miss) 0 vals = (0, 0) := firstBadFrom_none _ _ _ fun i hi => by simpa using h0 i hi
  unfold lineE; rw [if_pos h, e]
theorem lineE_bad {vals : List (Int × Int)} {miss : List Int} (h : lineHd vals.length miss.length = 0) (k : Nat) (hk : k < vals.length) (h0 : ∀ j (hj : j < vals.length), j < k → lineItem miss j vals[j] = 0) (h1 : lineItem miss k vals[k] = 2) : lineE vals miss = 2 := by
  have e := firstBadFrom_some (lineItem miss) vals 0 k hk (fun i hi => by simpa using h0 i (by omega) hi) (by simp [h1])
  unfold lineE; rw [if_pos h, e]; simp [h1]

set_option maxHeartbeats 1000000 in
theorem refLineErr_c (V M : Option Addr) (q1 q2 : Nat) (vals : List (Int × Int)) (miss : List Int) (w : World) (hs : Rd w V (gs vals)) (hr : Rd w M (ints miss)) (hn : vals.length ≤ 1000) :
    Calls Tryd.prog 69 #[.agg #[.slice V vals.length q1, .slice M miss.length q2]] w fun r w' => r = .returned (.int .i64 (lineE vals miss)) ∧ Below w.heap.size w w' := by
  have hX := Blk.new w 89 [.slice V vals.length q1, .slice M miss.length q2]
  have HW : Hid (lineHd vals.length miss.length ≠ 0 → lineE vals miss = lineHd vals.length miss.length) := fun h => by unfold lineE; rw [if_neg h]
  have hHd : lineHd vals.length miss.length = if (vals.length : Int) = 0 then 10 else if (miss.length : Int) ≠ vals.length then 10 else if (64 : Int) < vals.length then 8 else 0 := by
    unfold lineHd firstE errIf
    by_cases e : (miss.length : Int) = vals.length
    · simp only [e, bne_self_eq_false, Bool.false_eq_true, if_false, if_true, firstE, lenE_eq, ne_eq, not_true_eq_false]
      split
      · rfl
      · split <;> simp
    · have e' : ((miss.length : Int) != vals.length) = true := by simpa using e
      simp [e', e]
  have hal := alloc_bel w (.cells #[.slice V vals.length q1, .slice M miss.length q2] 89)
  have c0 := hX.cell 0; have c1 := hX.cell 1; simp only [List.getElem?_cons_zero, List.getElem?_cons_succ] at c0 c1
  by_cases h1 : vals.length = 0
  · have q3 : ((vals.length : Int) == 0) = true := by simp [h1]
    rw [if_pos (by omega)] at hHd
    have H := HW.out (by rw [hHd]; decide)
    rw [hHd] at H
    clear h1 hHd
    go_enter Tryd.func69, Tryd.ntmps69
    go_wp2
    go_ret
    exact ⟨by rw [H]; rfl, hal⟩
  · have q3 : ((vals.length : Int) == 0) = false := beq_eq_false_iff_ne.2 (by omega)
    rw [if_neg (by omega)] at hHd
    by_cases h2 : miss.length = vals.length
    · have q4 : ((miss.length : Int) != (vals.length : Int)) = false := by simp [h2]
      rw [if_neg (by omega)] at hHd
      by_cases h3 : 64 < vals.length
      · have q5 : decide ((64 : Int) < vals.length) = true := by simp; omega
        rw [if_pos (by omega)] at hHd
        have H := HW.out (by rw [hHd]; decide)
        rw [hHd] at H
        clear h1 h2 h3 hHd
        go_enter Tryd.func69, Tryd.ntmps69
        go_wp2
        go_ret
        exact ⟨by rw [H]; rfl, hal⟩
      · have q5 : decide ((64 : Int) < vals.length) = false := by simp; omega
        rw [if_neg (by omega)] at hHd
        have HG := hide (fun h => lineE_good hHd h)
        have HB := hide (fun k hk a b => lineE_bad hHd k hk a b)
        have hmv := hide h2
        clear h1 h3 hHd HW h2
        go_enter Tryd.func69, Tryd.ntmps69
        go_wp2
        clear q3 q4 q5 c0 c1
        obtain ⟨W, hW⟩ : ∃ W, w.alloc (.cells #[.slice V vals.length q1, .slice M miss.length q2] 89) = W := ⟨_, rfl⟩
        rw [hW] at hX hal ⊢
        clear hW
        have hzW := hX.lt
        go_loopw [3] (fun i wr => ∃ k : Nat, k ≤ vals.length ∧ i = .int .i64 k ∧ Below W.heap.size W wr ∧ Hid (∀ j (hj : j < vals.length), j < k → lineItem miss j vals[j] = 0)) (fun i _ => vals.length - (intOf i).toNat)
        case atStart => exact ⟨0, Nat.zero_le _, rfl, Below.refl _ _, fun _ _ h => absurd h (Nat.not_lt_zero _)⟩
        case round =>
          obtain ⟨k, hk, rfl, hbr, hall⟩ := hrel
          have hXr := hX.below hbr hzW
          have hwr := tr hal hbr hal.size
          have hzr := hbr.size
          have c0 := hXr.cell 0; have c1 := hXr.cell 1; simp only [List.getElem?_cons_zero, List.getElem?_cons_succ] at c0 c1
          by_cases hlt : k < vals.length
          · have hkm : k < miss.length := by have := hmv.out; omega
            obtain ⟨b, off, rfl, hbl, z0, z1⟩ := (hs.bel hwr).g_at hlt
            obtain ⟨b', off', rfl, hbl', z2⟩ := (hr.bel hwr).int_at hkm
            have e1 : miss.getD k 0 = miss[k] := by simp [List.getD, hkm]
            have HI : Hid (lineItem miss k vals[k] = errIf (beyB vals[k] 1000000000 || outB miss[k] 0 64) 2) := by show _ = _; unfold lineItem; rw [e1]
            have HBk := hide (fun h => HB.out k hlt (fun j hj hjk => hall.out j hj hjk) h)
            have hnext : Hid (lineItem miss k vals[k] = 0 → ∀ j (hj : j < vals.length), j < k + 1 → lineItem miss j vals[j] = 0) := fun he j hj hjk => by
              by_cases e : j = k
              · subst e; exact he
              · exact hall.out j hj (by omega)
            have ix0 : (0 : Int) ≤ (k : Int) := by omega
            have ix1 : (k : Int) < (vals.length : Int) := by omega
            have ix2 : (k : Int) < (miss.length : Int) := by omega
            clear HG HB hall e1
            generalize vals[k] = g at z0 z1 HI HBk hnext
            generalize miss[k] = z at z2 HI
            obtain ⟨x, y⟩ := g
            dsimp only at z0 z1
            have HP := hide (fun W => isPart_c x y 1000000000 W (by omega) (by omega))
            generalize beyB (x, y) 1000000000 = be at HP HI
            cases be
            · cases ho : outB z 0 64
              · have hz : lineItem miss k (x, y) = 0 := by rw [HI.out, ho]; rfl
                have hnx := hide (hnext.out hz)
                clear hz HI HBk hnext
                go_wp2_with (first
                  | (go_at_call 116; refine (HP.out _).mono ?_; rintro e w3 ⟨rfl, hb3⟩; have hbE := tr hbr hb3 hbr.size; have c2 := (hb3.cell (p := ⟨w.heap.size, 1, none⟩) (by show w.heap.size < _; omega)).trans c1; have z3 := (hb3.cell (p := ⟨b', off' + k, none⟩) hbl').trans z2)
                  | (go_at_call 26; refine (within_c _ _ _ _).mono ?_; rintro e w' ⟨rfl, rfl⟩; rw [ho]))
                go_roundw
                case rel => exact ⟨k + 1, by omega, by go_num, hbE, hnx⟩
                case measure => simp [intOf]; omega
              · have hz : lineItem miss k (x, y) = 2 := by rw [HI.out, ho]; rfl
                have hres := hide (HBk.out hz)
                clear hz HI HBk hnext
                go_wp2_with (first
                  | (go_at_call 116; refine (HP.out _).mono ?_; rintro e w3 ⟨rfl, hb3⟩; have hbE := tr hbr hb3 hbr.size; have c2 := (hb3.cell (p := ⟨w.heap.size, 1, none⟩) (by show w.heap.size < _; omega)).trans c1; have z3 := (hb3.cell (p := ⟨b', off' + k, none⟩) hbl').trans z2)
                  | (go_at_call 26; refine (within_c _ _ _ _).mono ?_; rintro e w' ⟨rfl, rfl⟩; rw [ho]))
                go_ret
                exact ⟨by rw [hres.out]; rfl, tr hal hbE hal.size⟩
            · have hz : lineItem miss k (x, y) = 2 := by rw [HI.out]; rfl
              have hres := hide (HBk.out hz)
              clear hz HI HBk hnext
              go_wp2_with (first
                | (go_at_call 116; refine (HP.out _).mono ?_; rintro e w3 ⟨rfl, hb3⟩; have hbE := tr hbr hb3 hbr.size))
              go_ret
              exact ⟨by rw [hres.out]; rfl, tr hal hbE hal.size⟩
          · obtain rfl : k = vals.length := by omega
            have H := hide (HG.out fun j hj => hall.out j hj hj)
            clear HG HB hall
            go_wp2
            go_ret
            exact ⟨by rw [H.out]; rfl, hwr⟩
    · have q4 : ((miss.length : Int) != (vals.length : Int)) = true := by simp; omega
      rw [if_pos (by omega)] at hHd
      have H := HW.out (by rw [hHd]; decide)
      rw [hHd] at H
      clear h1 h2 hHd
      go_enter Tryd.func69, Tryd.ntmps69
      go_wp2
      go_ret
      exact ⟨by rw [H]; rfl, hal⟩
end Go.Proofs.YthkmeaibppkhmaaDoor
