/- Contracts: the error of harmonics that are removed, twice; differences of whole complex numbers. -/
import Derived.Test.YtnigmdkhecblnaaDoorQ1
set_option linter.unusedSimpArgs false
set_option linter.unusedVariables false
namespace Go.Proofs.YtnigmdkhecblnaaDoor
open Go.RowKit
set_option maxRecDepth 100000

/-- The error of a harmonic behind the one before it, and the first of a list. -/
def hitE (lines : List Int) (k : Nat) (n : Int) : Int := firstE [errIf (outB n 0 3) 2, errIf (decide (0 < k) && decide (n ≤ lines.getD (k - 1) 0)) 9]
def linesE (lines : List Int) : Int := (firstBadFrom (hitE lines) 0 lines).2

theorem linesError1_c (k : Nat) (n : Int) (G : Option Addr) (c : Nat) (lines : List Int) (B : Nat) (w : World) (hd : w.cell? ⟨B, 0, none⟩ = some (.slice G lines.length c)) (hr : Rd w G (ints lines)) (hk : k < lines.length) (hg : lines.length ≤ 1000) :
    Calls Tryd.prog 68 (#[.int .i64 k, .int .i64 n] ++ #[.pointer (some ⟨B, 0, none⟩)]) w fun r w' => r = .returned (.int .i64 (hitE lines k n)) ∧ Below w.heap.size w w' := by
  rw [show (#[.int .i64 k, .int .i64 n] ++ #[.pointer (some ⟨B, 0, none⟩)] : Array Value) = #[.int .i64 k, .int .i64 n, .pointer (some ⟨B, 0, none⟩)] from rfl]
  have hB : B < w.heap.size := World.block_lt_of_cell? _ _ hd
  have hl0 : 0 < lines.length := by omega
  rcases Nat.eq_zero_or_pos k with rfl | hkp
  · have H : Hid (hitE lines 0 n = firstE [errIf (outB n 0 3) 2, errIf false 9]) := rfl
    go_enter Tryd.func68, Tryd.ntmps68
    go_wp2_with (first | (go_at_call 41; refine (errorIf_c _ _ _).mono ?_; rintro e_ w_ ⟨rfl, rfl⟩) | (go_at_call 60; refine (outside_c _ _ _ _).mono ?_; rintro e_ w_ ⟨rfl, rfl⟩) | (go_at_call 39; refine (firstError_2 _ _ _).mono ?_; rintro e_ w_ ⟨rfl, rfl⟩))
    go_ret
    exact ⟨by rw [H.out]; rfl, (Below.refl _ _).alloc (Nat.le_refl _) _⟩
  · obtain ⟨b, off, rfl, hblt, hc0⟩ := hr.int_at (k := k - 1) (by omega)
    have e1 : lines.getD (k - 1) 0 = lines[k - 1] := by simp [List.getD, show k - 1 < lines.length from by omega]
    have H : Hid (hitE lines k n = firstE [errIf (outB n 0 3) 2, errIf (decide (n ≤ lines[k - 1])) 9]) := by
      show hitE lines k n = _
      unfold hitE
      rw [e1]; simp [hkp]
    clear e1
    generalize lines[k - 1] = prev at hc0 H
    go_enter Tryd.func68, Tryd.ntmps68
    go_wp2_with (first | (go_at_call 41; refine (errorIf_c _ _ _).mono ?_; rintro e_ w_ ⟨rfl, rfl⟩) | (go_at_call 60; refine (outside_c _ _ _ _).mono ?_; rintro e_ w_ ⟨rfl, rfl⟩) | (go_at_call 39; refine (firstError_2 _ _ _).mono ?_; rintro e_ w_ ⟨rfl, rfl⟩))
    go_ret
    exact ⟨by rw [H.out]; rfl, (Below.refl _ _).alloc (Nat.le_refl _) _⟩

theorem linesError_c (lines : List Int) (G : Option Addr) (c : Nat) (w : World) (hr : Rd w G (ints lines)) (hg : lines.length ≤ 1000) :
    Calls Tryd.prog 40 #[.slice G lines.length c] w fun r w' => r = .returned (.int .i64 (linesE lines)) ∧ Below w.heap.size w w' := by
  have hX := Blk.new w 23 [.slice G lines.length c]
  have hA := alloc_bel w (.cells #[.slice G lines.length c] 23)
  have hrA := hr.bel hA
  have c0 := hX.cell 0
  simp only [List.getElem?_cons_zero] at c0
  have hxl := hX.lt
  have HE : Hid ((firstBadFrom (hitE lines) 0 lines).2 = linesE lines) := rfl
  have HC := hide (fun W (hb : Below (w.alloc (.cells #[.slice G lines.length c] 23)).heap.size (w.alloc (.cells #[.slice G lines.length c] 23)) W) => firstBadInt_c (hitE lines) 68 lines G c #[.pointer (some ⟨w.heap.size, 0, none⟩)] W (hrA.bel hb) hg Tryd.call68
    (fun k h W' hb' => linesError1_c k _ G c lines w.heap.size W' (((hb'.cell (p := ⟨w.heap.size, 0, none⟩) (Nat.lt_of_lt_of_le hxl hb.size)).trans (hb.cell (p := ⟨w.heap.size, 0, none⟩) hxl)).trans c0) ((hrA.bel hb).bel hb') h hg))
  go_enter Tryd.func40, Tryd.ntmps40
  go_wp2_with (first | (go_at_call 67; refine (HC.out _ (Below.refl _ _)).mono ?_; rintro e w2 ⟨rfl, hb2⟩))
  go_ret
  exact ⟨by rw [← HE.out]; rfl, bel_tr hA hA.size hb2⟩

theorem gsub_c (a b : Int × Int) (w : World) (ha : -4611686018427387904 ≤ a.1 ∧ a.1 ≤ 4611686018427387903 ∧ -4611686018427387904 ≤ a.2 ∧ a.2 ≤ 4611686018427387903) (hb : -4611686018427387904 ≤ b.1 ∧ b.1 ≤ 4611686018427387903 ∧ -4611686018427387904 ≤ b.2 ∧ b.2 ≤ 4611686018427387903) :
    Calls Tryd.prog 49 #[.agg #[.int .i64 a.1, .int .i64 a.2], .agg #[.int .i64 b.1, .int .i64 b.2]] w fun r w' => r = .returned (.agg #[.int .i64 (a.1 - b.1), .int .i64 (a.2 - b.2)]) ∧ Below w.heap.size w w' := by
  obtain ⟨x, y⟩ := a
  obtain ⟨u, v⟩ := b
  obtain ⟨a1, a2, a3, a4⟩ := ha
  obtain ⟨b1, b2, b3, b4⟩ := hb
  dsimp only at *
  go_enter Tryd.func49, Tryd.ntmps49
  go_wp2
  refine bodyPost_ret (by simp [results, Tryd.results49, go_sem]; try rfl) rfl ?_
  exact ⟨rfl, ((alloc_bel _ _).alloc (by simp) _).alloc (by simp; omega) _⟩

/-- The error of harmonics that are to be removed from a valid frame. -/
def remE (gain limit : Int) (lines : List Int) : Int := if linesE lines ≠ 0 then linesE lines else if 2000000 < 20 * limit then 8 else if gain - 2 < -8 then 22 else 0
theorem hitE_of (lines : List Int) (k : Nat) (n : Int) : hitE lines k n = if outB n 0 3 = true then 2 else if 0 < k ∧ n ≤ lines.getD (k - 1) 0 then 9 else 0 := by
  unfold hitE
  cases h : outB n 0 3
  · by_cases h2 : 0 < k ∧ n ≤ lines.getD (k - 1) 0
    · rw [if_neg (by simp), if_pos h2, decide_eq_true h2.1, decide_eq_true h2.2]; rfl
    · rw [if_neg (by simp), if_neg h2]
      have : (decide (0 < k) && decide (n ≤ lines.getD (k - 1) 0)) = false := by
        cases h3 : (decide (0 < k) && decide (n ≤ lines.getD (k - 1) 0))
        · rfl
        · simp only [Bool.and_eq_true, decide_eq_true_eq] at h3
          exact absurd h3 h2
      rw [this]; rfl
  · rfl

set_option maxHeartbeats 1000000 in
theorem refLinesErr_c (gain limit : Int) (A G B : Option Addr) (n m cA c cB : Nat) (lines : List Int) (w : World) (hr : Rd w B (ints lines)) (hl : lines.length ≤ 1000) (hlim : 1 ≤ limit ∧ limit ≤ 2000000) (hgain : -8 ≤ gain ∧ gain ≤ 8) :
    Calls Tryd.prog 12 #[.agg #[.int .i64 gain, .int .i64 limit, .slice A n cA, .slice G m c], .slice B lines.length cB] w fun r w' => r = .returned (.int .i64 (remE gain limit lines)) ∧ Below w.heap.size w w' := by
  have hX := Blk.new w 25 [.int .i64 gain, .int .i64 limit, .slice A n cA, .slice G m c]
  have hA := alloc_bel w (.cells #[.int .i64 gain, .int .i64 limit, .slice A n cA, .slice G m c] 25)
  have hrA := hr.bel hA
  obtain ⟨l1, l2⟩ := hlim
  obtain ⟨g1, g2⟩ := hgain
  clear hr
  go_enter Tryd.func12, Tryd.ntmps12
  go_wp2
  obtain ⟨W, hW⟩ : ∃ W, w.alloc (.cells #[.int .i64 gain, .int .i64 limit, .slice A n cA, .slice G m c] 25) = W := ⟨_, rfl⟩
  rw [hW] at hX hA hrA ⊢
  clear hW
  have c0 := hX.cell 0; have c1 := hX.cell 1; have c2 := hX.cell 2; have c3 := hX.cell 3; simp only [List.getElem?_cons_zero, List.getElem?_cons_succ] at c0 c1 c2 c3
  clear hX
  go_loopw [5] (fun i wr => ∃ k : Nat, k ≤ lines.length ∧ i = .int .i64 k ∧ (∃ d, wr = W.drewN d) ∧ ∀ i (h : i < lines.length), i < k → hitE lines i lines[i] = 0) (fun i _ => lines.length - (intOf i).toNat)
  case atStart => exact ⟨0, Nat.zero_le _, rfl, ⟨0, rfl⟩, fun i _ h => by omega⟩
  case round =>
    obtain ⟨k, hk, rfl, ⟨d, rfl⟩, hall⟩ := hrel
    have HALL := hide hall
    clear hall
    by_cases hlt : k < lines.length
    · have hcl := hitE_of lines k lines[k]
      have hat : ∀ e, hitE lines k lines[k] = e → e ≠ 0 → remE gain limit lines = e := fun e he hne => by
        have h := firstBadFrom_some (hitE lines) lines 0 k hlt (fun i hi => by simpa using HALL.out i (by omega) hi) (by simpa using (by rw [he]; exact hne))
        have h2 : linesE lines = e := by unfold linesE; rw [h]; simpa using he
        unfold remE; rw [h2, if_pos hne]
      have HAT := hide hat
      clear hat
      obtain ⟨bB, oB, rfl, hbB, z0⟩ := hrA.int_at hlt
      replace z0 : W.cell? ⟨bB, oB + k, none⟩ = some (.int .i64 lines[k]) := z0
      have ix0 : (0 : Int) ≤ (k : Int) := by omega
      have ix1 : (k : Int) < (lines.length : Int) := by omega
      have HWI := hide (fun W => within_c lines[k] 0 3 W)
      cases ho : outB lines[k] 0 3
      · rw [ho] at HWI hcl
        rw [if_neg (by simp)] at hcl
        rcases Nat.eq_zero_or_pos k with rfl | hkp
        · rw [if_neg (by omega)] at hcl
          have H2 : Hid (∀ i (h : i < lines.length), i < 0 + 1 → hitE lines i lines[i] = 0) := fun i h hi => by
            obtain rfl : i = 0 := by omega
            exact hcl
          clear hcl ho
          replace z0 : W.cell? ⟨bB, oB, none⟩ = some (.int .i64 lines[0]) := z0
          generalize lines[0] = x at z0 HWI
          go_upto_region 6 with (first | (go_at_call 22; refine (HWI.out _).mono ?_; rintro e_ w_ ⟨rfl, rfl⟩))
          go_quiet (fail)
          go_wp2
          go_roundw
          case rel => exact ⟨0 + 1, by omega, rfl, ⟨_, rfl⟩, H2.out⟩
          case measure => simp [intOf]; omega
        · obtain ⟨b', o', hBB, hbB', z1⟩ := hrA.int_at (show k - 1 < lines.length by omega)
          injection hBB with hBB
          injection hBB with e1 e2
          subst e1 e2
          replace z1 : W.cell? ⟨bB, oB + (k - 1), none⟩ = some (.int .i64 lines[k - 1]) := z1
          have hgd : lines.getD (k - 1) 0 = lines[k - 1] := by simp [List.getD, show k - 1 < lines.length by omega]
          rw [hgd] at hcl
          have ix2 : IntKind.i64.wrap ((k : Int) - 1) = (k : Int) - 1 := by simp (disch := omega) only [IntWalk.i64_in]
          have ix3 : (0 : Int) ≤ (k : Int) - 1 := by omega
          have ix4 : (k : Int) - 1 < (lines.length : Int) := by omega
          have ix5 : ((k : Int) - 1).toNat = k - 1 := by omega
          have d0 : decide (0 < (k : Int)) = true := by simp; omega
          by_cases hle : lines[k] ≤ lines[k - 1]
          · have HZ := hide (HAT.out 9 (by rw [hcl, if_pos ⟨hkp, hle⟩]) (by omega))
            clear hcl ho hgd
            generalize lines[k] = x at z0 HWI hle
            generalize lines[k - 1] = y at z1 hle
            have d1 : decide (x ≤ y) = true := by simp [hle]
            go_upto_region 6 with (first | (go_at_call 22; refine (HWI.out _).mono ?_; rintro e_ w_ ⟨rfl, rfl⟩))
            go_quiet (fail)
            go_wp2
            go_ret
            exact ⟨by rw [HZ.out]; rfl, below_drewN (below_drewN hA _) _⟩
          · have H2 : Hid (∀ i (h : i < lines.length), i < k + 1 → hitE lines i lines[i] = 0) := fun i h hi => by
              by_cases e : i = k
              · subst e; rw [hcl, if_neg (fun h => hle h.2)]
              · exact HALL.out i h (by omega)
            clear hcl ho hgd
            generalize lines[k] = x at z0 HWI hle
            generalize lines[k - 1] = y at z1 hle
            have d1 : decide (x ≤ y) = false := by simp [hle]
            go_upto_region 6 with (first | (go_at_call 22; refine (HWI.out _).mono ?_; rintro e_ w_ ⟨rfl, rfl⟩))
            go_quiet (fail)
            go_wp2
            go_roundw
            case rel => exact ⟨k + 1, by omega, by go_num, ⟨_, rfl⟩, H2.out⟩
            case measure => simp [intOf]; omega
      · rw [ho] at HWI hcl
        rw [if_pos rfl] at hcl
        have HZ := hide (HAT.out 2 hcl (by omega))
        clear hcl ho
        generalize lines[k] = x at z0 HWI
        go_wp2_with (first | (go_at_call 22; refine (HWI.out _).mono ?_; rintro e_ w_ ⟨rfl, rfl⟩))
        go_ret
        exact ⟨by rw [HZ.out]; rfl, below_drewN hA _⟩
    · obtain rfl : k = lines.length := by omega
      have hz : linesE lines = 0 := by
        unfold linesE
        rw [firstBadFrom_none (hitE lines) lines 0 fun i hi => by simpa using HALL.out i hi hi]
      have HR : Hid (remE gain limit lines = if 2000000 < 20 * limit then 8 else if gain - 2 < -8 then 22 else 0) := by show _ = _; unfold remE; rw [if_neg (by simpa using hz)]
      clear hz
      have y0 : (W.drewN d).cell? ⟨w.heap.size, 0, none⟩ = some (.int .i64 gain) := c0
      have y1 : (W.drewN d).cell? ⟨w.heap.size, 1, none⟩ = some (.int .i64 limit) := c1
      by_cases h1 : 2000000 < 20 * limit
      · rw [if_pos h1] at HR
        go_wp2
        go_ret
        exact ⟨by rw [HR.out]; rfl, below_drewN hA _⟩
      · rw [if_neg h1] at HR
        by_cases h2 : gain - 2 < -8
        · rw [if_pos h2] at HR
          go_wp2
          go_ret
          exact ⟨by rw [HR.out]; rfl, below_drewN hA _⟩
        · rw [if_neg h2] at HR
          go_wp2
          go_ret
          exact ⟨by rw [HR.out]; rfl, below_drewN hA _⟩
end Go.Proofs.YtnigmdkhecblnaaDoor
