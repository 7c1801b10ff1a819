/- Contracts: frames. -/
import Derived.Test.YtmedjedmeggbpaaDoorW2
import Derived.Test.YtmedjedmeggbpaaDoorBase2
import Derived.Test.YtmedjedmeggbpaaDoorFrame
namespace Go.Proofs.YtmedjedmeggbpaaDoor
open Go.RowKit
set_option maxRecDepth 100000

/-- firstBad at whole complex numbers. -/
theorem firstBadG_c (chk : Nat → G → Int) (f : FuncId) (l : List G) (A : Option Addr) (c : Nat) (cap : Array Value) (w : World) (hr : Rd w A (gs l)) (hl : l.length ≤ 1000)
    (hE : ∀ (args : Array Value) (W : World), (callFunc f args).run Tryd.prog W = .ok (.enter f args) W)
    (hchk : ∀ (k : Nat) (h : k < l.length) (W : World), Below w.heap.size w W → Calls Tryd.prog f (#[.int .i64 k, .agg #[.int .i64 l[k].1, .int .i64 l[k].2]] ++ cap) W fun r W' => r = .returned (.int .i64 (chk k l[k])) ∧ Below W.heap.size W W') :
    Calls Tryd.prog 110 #[.slice A l.length c, .func (.func f) #[] cap] w fun r w' => r = .returned (.tuple #[.int .i64 (firstBadFrom chk 0 l).1, .int .i64 (firstBadFrom chk 0 l).2]) ∧ Below w.heap.size w w' := by
  have HC := hide hchk
  clear hchk
  go_enter Tryd.func110, Tryd.ntmps110
  go_wp2
  go_loopw [11] (fun i wr => ∃ k : Nat, k ≤ l.length ∧ i = .int .i64 k ∧ Below w.heap.size w wr ∧ Hid (∀ j (h : j < l.length), j < k → chk j l[j] = 0)) (fun i _ => l.length - (intOf i).toNat)
  case atStart => exact ⟨0, Nat.zero_le _, rfl, Below.refl _ _, fun _ _ h => by omega⟩
  case round =>
    obtain ⟨k, hk, rfl, hb, h0⟩ := hrel
    by_cases hlt : k < l.length
    · obtain ⟨b, off, rfl, hblt, hc0, hc1⟩ := (hr.bel hb).g_at hlt
      by_cases hz : chk k l[k] = 0
      · have H1 : Hid (∀ j (h : j < l.length), j < k + 1 → chk j l[j] = 0) := fun j h hj => by
          by_cases e : j = k
          · subst e; exact hz
          · exact h0.out j h (by omega)
        go_wp2_with (refine (HC.out k hlt _ (hb.alloc hb.size _)).mono ?_; rintro e w' ⟨rfl, hb1⟩)
        go_roundw
        case rel => exact ⟨k + 1, by omega, by go_num, tr (hb.alloc hb.size _) hb1 (by have := hb.size; simp; omega), H1⟩
        case measure => simp [intOf]; omega
      · have H1 : Hid (firstBadFrom chk 0 l = ((k : Int), chk k l[k])) := by
          have := firstBadFrom_some chk l 0 k hlt (fun i hi => by simpa using h0.out i (by omega) hi) (by simpa using hz)
          show firstBadFrom chk 0 l = _; simpa using this
        go_wp2_with (refine (HC.out k hlt _ (hb.alloc hb.size _)).mono ?_; rintro e w' ⟨rfl, hb1⟩)
        go_ret2
        exact ⟨by rw [H1.out]; rfl, tr (hb.alloc hb.size _) hb1 (by have := hb.size; simp; omega)⟩
    · have H1 : Hid (firstBadFrom chk 0 l = (0, 0)) := firstBadFrom_none chk l 0 fun i hi => by simpa using h0.out i hi (by omega)
      go_wp2
      go_ret2
      exact ⟨by rw [H1.out]; rfl, hb⟩
theorem beyond_c (a b limit : Int) (w : World) (h1 : -4611686018427387904 ≤ limit) (h2 : limit ≤ 4611686018427387904) :
    Calls Tryd.prog 112 #[.agg #[.int .i64 a, .int .i64 b], .int .i64 limit] w fun r w' => r = .returned (.bool (beyB (a, b) limit)) ∧ Below w.heap.size w w' := by
  have H : Hid (beyB (a, b) limit = (outB a (-limit) limit || outB b (-limit) limit)) := rfl
  generalize g1 : outB a (-limit) limit = b1 at H
  generalize g2 : outB b (-limit) limit = b2 at H
  cases b1 <;> cases b2 <;> (
    go_enter Tryd.func112, Tryd.ntmps112
    go_wp2_with (first | (go_at_call 93; refine (errorIf_c _ _ _).mono ?_; rintro e_ w_ ⟨rfl, rfl⟩) | (go_at_call 94; refine (outside_c _ _ _ _).mono ?_; rintro e_ w_ ⟨rfl, rfl⟩))
    go_ret
    exact ⟨by rw [H.out]; rfl, (Below.refl _ _).alloc (Nat.le_refl _) _⟩)

theorem checkFrame1_c (k re im limit : Int) (B : Nat) (w : World) (hc : w.cell? ⟨B, 1, none⟩ = some (.int .i64 limit)) (h1 : -4611686018427387904 ≤ limit) (h2 : limit ≤ 4611686018427387904) :
    Calls Tryd.prog 111 (#[.int .i64 k, .agg #[.int .i64 re, .int .i64 im]] ++ #[.pointer (some ⟨B, 0, none⟩)]) w fun r w' => r = .returned (.int .i64 (sampleE limit (re, im))) ∧ Below w.heap.size w w' := by
  rw [show (#[.int .i64 k, .agg #[.int .i64 re, .int .i64 im]] ++ #[.pointer (some ⟨B, 0, none⟩)] : Array Value) = #[.int .i64 k, .agg #[.int .i64 re, .int .i64 im], .pointer (some ⟨B, 0, none⟩)] from rfl]
  have hB : B < w.heap.size := World.block_lt_of_cell? _ _ hc
  go_enter Tryd.func111, Tryd.ntmps111
  go_wp2_with (first | (go_at_call 112; refine (beyond_c _ _ limit _ h1 h2).mono ?_; rintro e w1 ⟨rfl, hb1⟩) | (go_at_call 93; refine (errorIf_c _ _ _).mono ?_; rintro e_ w_ ⟨rfl, rfl⟩) | (go_at_call 94; refine (outside_c _ _ _ _).mono ?_; rintro e_ w_ ⟨rfl, rfl⟩))
  go_ret
  exact ⟨rfl, tr ((Below.refl _ _).alloc (Nat.le_refl _) _) hb1 (by simp)⟩

theorem checkFrame2_c (_gain _limit : Value) (k : Nat) (gap : Int) (A G : Option Addr) (n cA c : Nat) (gaps : List Int) (B : Nat) (w : World) (hc : w.cell? ⟨B, 2, none⟩ = some (.slice A n cA)) (hd : w.cell? ⟨B, 3, none⟩ = some (.slice G gaps.length c))
    (hr : Rd w G (ints gaps)) (hn : n ≤ 1000) (hk : k < gaps.length) (hg : gaps.length ≤ 1000) :
    Calls Tryd.prog 113 (#[.int .i64 k, .int .i64 gap] ++ #[.pointer (some ⟨B, 0, none⟩)]) w fun r w' => r = .returned (.int .i64 (gapE n gaps k gap)) ∧ Below w.heap.size w w' := by
  rw [show (#[.int .i64 k, .int .i64 gap] ++ #[.pointer (some ⟨B, 0, none⟩)] : Array Value) = #[.int .i64 k, .int .i64 gap, .pointer (some ⟨B, 0, none⟩)] from rfl]
  have hB : B < w.heap.size := World.block_lt_of_cell? _ _ hc
  have hl0 : 0 < gaps.length := by omega
  rcases Nat.eq_zero_or_pos k with rfl | hkp
  · have H : Hid (gapE n gaps 0 gap = firstE [errIf (outB gap 0 ((n : Int) - 1)) 6, errIf false 9]) := rfl
    go_enter Tryd.func113, Tryd.ntmps113
    go_wp2_with (first | (go_at_call 93; refine (errorIf_c _ _ _).mono ?_; rintro e_ w_ ⟨rfl, rfl⟩) | (go_at_call 94; refine (outside_c _ _ _ _).mono ?_; rintro e_ w_ ⟨rfl, rfl⟩) | (go_at_call 92; refine (firstError_2 _ _ _).mono ?_; rintro e_ w_ ⟨rfl, rfl⟩))
    go_ret
    exact ⟨by rw [H.out]; rfl, (Below.refl _ _).alloc (Nat.le_refl _) _⟩
  · obtain ⟨b, off, rfl, hblt, hc0⟩ := hr.int_at (k := k - 1) (by omega)
    have e1 : gaps.getD (k - 1) 0 = gaps[k - 1] := by simp [List.getD, show k - 1 < gaps.length from by omega]
    have H : Hid (gapE n gaps k gap = firstE [errIf (outB gap 0 ((n : Int) - 1)) 6, errIf (decide (gap ≤ gaps[k - 1])) 9]) := by
      show gapE n gaps k gap = _
      unfold gapE
      rw [e1]; simp [hkp]
    clear e1
    generalize gaps[k - 1] = prev at hc0 H
    go_enter Tryd.func113, Tryd.ntmps113
    go_wp2_with (first | (go_at_call 93; refine (errorIf_c _ _ _).mono ?_; rintro e_ w_ ⟨rfl, rfl⟩) | (go_at_call 94; refine (outside_c _ _ _ _).mono ?_; rintro e_ w_ ⟨rfl, rfl⟩) | (go_at_call 92; refine (firstError_2 _ _ _).mono ?_; rintro e_ w_ ⟨rfl, rfl⟩))
    go_ret
    exact ⟨by rw [H.out]; rfl, (Below.refl _ _).alloc (Nat.le_refl _) _⟩

section
variable {w wx w1 : World} {B n : Nat} {v0 v1 v2 v3 : Value}
theorem held4_bel (h : wx.cell? ⟨B, 0, none⟩ = some v0 ∧ wx.cell? ⟨B, 1, none⟩ = some v1 ∧ wx.cell? ⟨B, 2, none⟩ = some v2 ∧ wx.cell? ⟨B, 3, none⟩ = some v3 ∧ Below n w wx) (hb : Below wx.heap.size wx w1) (hB : n ≤ wx.heap.size) :
    w1.cell? ⟨B, 0, none⟩ = some v0 ∧ w1.cell? ⟨B, 1, none⟩ = some v1 ∧ w1.cell? ⟨B, 2, none⟩ = some v2 ∧ w1.cell? ⟨B, 3, none⟩ = some v3 ∧ Below n w w1 := by
  obtain ⟨h0, h1, h2, h3, h4⟩ := h
  have hlt : B < wx.heap.size := World.block_lt_of_cell? _ _ h0
  exact ⟨(hb.cell (p := ⟨B, 0, none⟩) hlt).trans h0, (hb.cell (p := ⟨B, 1, none⟩) hlt).trans h1, (hb.cell (p := ⟨B, 2, none⟩) hlt).trans h2, (hb.cell (p := ⟨B, 3, none⟩) hlt).trans h3, h4.trans (hb.mono hB)⟩
theorem held4_drew (h : wx.cell? ⟨B, 0, none⟩ = some v0 ∧ wx.cell? ⟨B, 1, none⟩ = some v1 ∧ wx.cell? ⟨B, 2, none⟩ = some v2 ∧ wx.cell? ⟨B, 3, none⟩ = some v3 ∧ Below n w wx) :
    wx.drew.cell? ⟨B, 0, none⟩ = some v0 ∧ wx.drew.cell? ⟨B, 1, none⟩ = some v1 ∧ wx.drew.cell? ⟨B, 2, none⟩ = some v2 ∧ wx.drew.cell? ⟨B, 3, none⟩ = some v3 ∧ Below n w wx.drew :=
  ⟨h.1, h.2.1, h.2.2.1, h.2.2.2.1, h.2.2.2.2.drew⟩
theorem held4_alloc (h : wx.cell? ⟨B, 0, none⟩ = some v0 ∧ wx.cell? ⟨B, 1, none⟩ = some v1 ∧ wx.cell? ⟨B, 2, none⟩ = some v2 ∧ wx.cell? ⟨B, 3, none⟩ = some v3 ∧ Below n w wx) (hB : n ≤ wx.heap.size) (o : Obj) :
    (wx.alloc o).cell? ⟨B, 0, none⟩ = some v0 ∧ (wx.alloc o).cell? ⟨B, 1, none⟩ = some v1 ∧ (wx.alloc o).cell? ⟨B, 2, none⟩ = some v2 ∧ (wx.alloc o).cell? ⟨B, 3, none⟩ = some v3 ∧ Below n w (wx.alloc o) :=
  held4_bel h ((Below.refl _ _).alloc (Nat.le_refl _) o) hB
theorem held4_new (w : World) (v0 v1 v2 v3 : Value) (t : TypeId) : (w.alloc (.cells #[v0, v1, v2, v3] t)).cell? ⟨w.heap.size, 0, none⟩ = some v0 ∧ (w.alloc (.cells #[v0, v1, v2, v3] t)).cell? ⟨w.heap.size, 1, none⟩ = some v1 ∧
    (w.alloc (.cells #[v0, v1, v2, v3] t)).cell? ⟨w.heap.size, 2, none⟩ = some v2 ∧ (w.alloc (.cells #[v0, v1, v2, v3] t)).cell? ⟨w.heap.size, 3, none⟩ = some v3 ∧ Below w.heap.size w (w.alloc (.cells #[v0, v1, v2, v3] t)) := by
  refine ⟨?_, ?_, ?_, ?_, (Below.refl _ _).alloc (Nat.le_refl _) _⟩ <;> (rw [cell_of_row _ _ _ _ _ (0, 0) (heap_alloc_new w _)]; rfl)
end

theorem checkFrame_c (gain limit : Int) (A G : Option Addr) (cA c : Nat) (samples : List (Int × Int)) (gaps : List Int) (w : World) (hs : Rd w A (gs samples)) (hr : Rd w G (ints gaps)) (hn : samples.length ≤ 1000) (hg : gaps.length ≤ 1000) :
    Calls Tryd.prog 55 #[.agg #[.int .i64 gain, .int .i64 limit, .slice A samples.length cA, .slice G gaps.length c]] w fun r w' =>
      r = .returned (.tuple #[.int .i64 (frameE gain limit samples gaps).1, .int .i64 (frameE gain limit samples gaps).2]) ∧ Below w.heap.size w w' := by
  have HS := hide (held4_new w (.int .i64 gain) (.int .i64 limit) (.slice A samples.length cA) (.slice G gaps.length c) 81)
  have hz0 : w.heap.size ≤ (w.alloc (.cells #[.int .i64 gain, .int .i64 limit, .slice A samples.length cA, .slice G gaps.length c] 81)).drew.heap.size := by simp
  go_enter Tryd.func55, Tryd.ntmps55
  go_wp2
  go_region_held3 (fun w' => w'.cell? ⟨w.heap.size, 0, none⟩ = some (.int .i64 gain) ∧ w'.cell? ⟨w.heap.size, 1, none⟩ = some (.int .i64 limit) ∧ w'.cell? ⟨w.heap.size, 2, none⟩ = some (.slice A samples.length cA) ∧ w'.cell? ⟨w.heap.size, 3, none⟩ = some (.slice G gaps.length c) ∧ Below w.heap.size w w')
    (first | exact held4_drew HS.out | exact held4_bel (held4_drew HS.out) hb1 hz0 | exact held4_alloc (held4_bel (held4_drew HS.out) hb1 hz0) (Nat.le_trans hz0 hb1.size) _)
    (first
      | (go_at_call 97; refine (lengthError_c _ _ _).mono ?_; rintro e w1 ⟨rfl, hb1⟩) | (go_at_call 93; refine (errorIf_c _ _ _).mono ?_; rintro e_ w_ ⟨rfl, rfl⟩) | (go_at_call 94; refine (outside_c _ _ _ _).mono ?_; rintro e_ w_ ⟨rfl, rfl⟩) | (go_at_call 92; refine (firstError_3 _ _ _ _).mono ?_; rintro e_ w_ ⟨rfl, rfl⟩))
  have hF := held4_alloc (held4_bel (held4_drew HS.out) hb1 hz0) (Nat.le_trans hz0 hb1.size) (.cells #[.int .i64 (errIf (outB gain (-8) 8) 2), .int .i64 (errIf (outB limit 1 2000000) 2), .int .i64 (lenE samples.length 64)] 25)
  generalize hW : w1.alloc (.cells #[.int .i64 (errIf (outB gain (-8) 8) 2), .int .i64 (errIf (outB limit 1 2000000) 2), .int .i64 (lenE samples.length 64)] 25) = W at hF ⊢
  rw [show firstE [errIf (outB gain (-8) 8) 2, errIf (outB limit 1 2000000) 2, lenE samples.length 64] = headE gain limit samples.length from rfl]
  obtain ⟨c0, c1, c2, c3, hbel⟩ := hF
  have hsz : w.heap.size < W.heap.size := World.block_lt_of_cell? _ _ c0
  clear hb1 HS hW
  by_cases h0 : headE gain limit samples.length = 0
  · have e1 : (headE gain limit samples.length != 0) = false := by simpa using h0
    obtain ⟨_, _, l1, l2, _, _⟩ := headE_zero h0
    have H0 := hide h0
    clear h0
    have HC1 := hide (firstBadG_c (fun _ g => sampleE limit g) 111 samples A cA #[.pointer (some ⟨w.heap.size, 0, none⟩)] W (hs.bel hbel) hn Tryd.call111
      (fun k h W' hb => checkFrame1_c k _ _ limit w.heap.size W' ((hb.cell (p := ⟨w.heap.size, 1, none⟩) hsz).trans c1) (by omega) (by omega)))
    by_cases h1 : (firstBadFrom (fun _ g => sampleE limit g) 0 samples).2 = 0
    · have H1 := hide h1
      have HR : Hid (frameE gain limit samples gaps = firstBadFrom (gapE samples.length gaps) 0 gaps) := by
        show frameE gain limit samples gaps = _
        unfold frameE
        rw [if_pos H0.out, if_pos h1]
      have e2 : ((firstBadFrom (fun _ g => sampleE limit g) 0 samples).2 != 0) = false := by simpa using h1
      clear h1
      generalize (firstBadFrom (fun _ g => sampleE limit g) 0 samples).1 = i1 at HC1
      generalize (firstBadFrom (fun _ g => sampleE limit g) 0 samples).2 = i2 at HC1 e2
      go_wp2_with (first
        | (go_at_call 110; refine HC1.out.mono ?_; rintro e w2 ⟨rfl, hb2⟩; have c2' := (hb2.cell (p := ⟨w.heap.size, 2, none⟩) hsz).trans c2; have c3' := (hb2.cell (p := ⟨w.heap.size, 3, none⟩) hsz).trans c3)
        | (go_at_call 98; refine (firstBadInt_c (gapE samples.length gaps) 113 gaps G c #[.pointer (some ⟨w.heap.size, 0, none⟩)] w2 ((hr.bel hbel).bel hb2) hg Tryd.call113 (fun k h W' hb => checkFrame2_c .nilFunc .nilFunc k _ A G samples.length cA c gaps w.heap.size W' ((hb.cell (p := ⟨w.heap.size, 2, none⟩) (Nat.lt_of_lt_of_le hsz hb2.size)).trans c2') ((hb.cell (p := ⟨w.heap.size, 3, none⟩) (Nat.lt_of_lt_of_le hsz hb2.size)).trans c3') (((hr.bel hbel).bel hb2).bel hb) hn h hg)).mono ?_; rintro e w3 ⟨rfl, hb3⟩))
      go_ret2
      exact ⟨by rw [HR.out]; rfl, tr (tr hbel hb2 (by omega)) hb3 (by have := hb2.size; omega)⟩
    · have HR : Hid (frameE gain limit samples gaps = firstBadFrom (fun _ g => sampleE limit g) 0 samples) := by
        show frameE gain limit samples gaps = _
        unfold frameE
        rw [if_pos H0.out, if_neg h1]
      have e2 : ((firstBadFrom (fun _ g => sampleE limit g) 0 samples).2 != 0) = true := by simpa using h1
      clear h1
      obtain ⟨fb, hfb⟩ : ∃ fb, firstBadFrom (fun _ g => sampleE limit g) 0 samples = fb := ⟨_, rfl⟩
      rw [hfb] at HC1 e2 HR
      clear hfb
      go_wp2_with (first
        | (go_at_call 110; refine HC1.out.mono ?_; rintro e w2 ⟨rfl, hb2⟩))
      go_ret2
      exact ⟨by rw [HR.out]; rfl, tr hbel hb2 (by omega)⟩
  · have HR : Hid (frameE gain limit samples gaps = (0, headE gain limit samples.length)) := by
      show frameE gain limit samples gaps = _
      unfold frameE
      rw [if_neg h0]
    have e1 : (headE gain limit samples.length != 0) = true := by simpa using h0
    clear h0
    go_wp2
    go_ret2
    exact ⟨by rw [HR.out]; rfl, hbel⟩
end Go.Proofs.YtmedjedmeggbpaaDoor
