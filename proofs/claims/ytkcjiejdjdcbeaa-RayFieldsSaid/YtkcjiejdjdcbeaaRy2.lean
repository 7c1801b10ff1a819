/- Contracts: the check of a ray. -/
import Derived.Test.YtkcjiejdjdcbeaaRy1
set_option linter.unusedSimpArgs false
set_option linter.unusedVariables false
namespace Go.Proofs.Ytkcjiejdjdcbeaa
open Go.RowKit
set_option maxRecDepth 100000

/-- The error of a slab (thickness, square), of a sky's head, and of a sky, with the slab's index. -/
def slabE (g : G) : Int := firstE [errIf (outB g.1 1 500) 2, errIf (outB g.2 0 9000000) 2]
def skyHead (h : Int) (n : Nat) : Int := firstE [errIf (outB h 1 500) 2, errIf ((n : Int) == 0) 10, errIf (decide (12 < (n : Int))) 8]
def skyE (h : Int) (l : List G) : Int × Int := if skyHead h l.length = 0 then firstBadFrom (fun _ g => slabE g) 0 l else (0, skyHead h l.length)


/-- firstBad at slabs. -/
theorem firstBadG_c (chk : Nat → G → Int) (f : FuncId) (l : List G) (A : Option Addr) (c : Nat) (cap : Array Value) (w : World) (hr : Rd w A (gs l)) (hl : l.length ≤ 1000)
    (hE : ∀ (args : Array Value) (W : World), (callFunc f args).run Try.prog W = .ok (.enter f args) W)
    (hchk : ∀ (k : Nat) (h : k < l.length) (W : World), Below w.heap.size w W → Calls Try.prog f (#[.int .i64 k, .agg #[.int .i64 l[k].1, .int .i64 l[k].2]] ++ cap) W fun r W' => r = .returned (.int .i64 (chk k l[k])) ∧ Below W.heap.size W W') :
    Calls Try.prog 93 #[.slice A l.length c, .func (.func f) #[] cap] w fun r w' => r = .returned (.tuple #[.int .i64 (firstBadFrom chk 0 l).1, .int .i64 (firstBadFrom chk 0 l).2]) ∧ Below w.heap.size w w' := by
  have HC := hide hchk
  clear hchk
  go_enter Try.func93, Try.ntmps93
  go_wp2
  go_loopw [11] (fun i wr => ∃ k : Nat, k ≤ l.length ∧ i = .int .i64 k ∧ Below w.heap.size w wr ∧ Hid (∀ j (h : j < l.length), j < k → chk j l[j] = 0)) (fun i _ => l.length - (intOf i).toNat)
  case atStart => exact ⟨0, Nat.zero_le _, rfl, Below.refl _ _, fun _ _ h => by omega⟩
  case round =>
    obtain ⟨k, hk, rfl, hb, h0⟩ := hrel
    by_cases hlt : k < l.length
    · obtain ⟨b, off, rfl, hblt, hc0, hc1⟩ := (hr.bel hb).g_at hlt
      by_cases hz : chk k l[k] = 0
      · have H1 : Hid (∀ j (h : j < l.length), j < k + 1 → chk j l[j] = 0) := fun j h hj => by
          by_cases e : j = k
          · subst e; exact hz
          · exact h0.out j h (by omega)
        go_wp2_with (refine (HC.out k hlt _ (hb.alloc hb.size _)).mono ?_; rintro e w' ⟨rfl, hb1⟩)
        go_roundw
        case rel => exact ⟨k + 1, by omega, by go_num, tr (hb.alloc hb.size _) hb1 (by have := hb.size; first | omega | (simp; omega)), H1⟩
        case measure => simp [intOf]; omega
      · have H1 : Hid (firstBadFrom chk 0 l = ((k : Int), chk k l[k])) := by
          have := firstBadFrom_some chk l 0 k hlt (fun i hi => by simpa using h0.out i (by omega) hi) (by simpa using hz)
          show firstBadFrom chk 0 l = _; simpa using this
        go_wp2_with (refine (HC.out k hlt _ (hb.alloc hb.size _)).mono ?_; rintro e w' ⟨rfl, hb1⟩)
        go_ret2
        exact ⟨by rw [H1.out]; rfl, tr (hb.alloc hb.size _) hb1 (by have := hb.size; first | omega | (simp; omega))⟩
    · have H1 : Hid (firstBadFrom chk 0 l = (0, 0)) := firstBadFrom_none chk l 0 fun i hi => by simpa using h0.out i hi (by omega)
      go_wp2
      go_ret2
      exact ⟨by rw [H1.out]; rfl, hb⟩

theorem checkSky1_c (k t sq : Int) (w : World) :
    Calls Try.prog 94 (#[.int .i64 k, .agg #[.int .i64 t, .int .i64 sq]] ++ #[]) w fun r w' => r = .returned (.int .i64 (slabE (t, sq))) ∧ Below w.heap.size w w' := by
  rw [Array.append_empty]
  have hX := Blk.new w 79 [.int .i64 t, .int .i64 sq]
  have hbel := alloc_bel w (.cells #[.int .i64 t, .int .i64 sq] 79)
  generalize hW : w.alloc (.cells #[.int .i64 t, .int .i64 sq] 79) = W at hX hbel
  have HW := hide hW
  clear hW
  have c0 := hX.cell 0; have c1 := hX.cell 1; simp only [List.getElem?_cons_zero, List.getElem?_cons_succ] at c0 c1
  have hzW := hX.lt
  go_enter Try.func94, Try.ntmps94
  go_wp2
  rw [HW.out]
  clear hX
  go_region_held3 (fun w' => (∀ b o, b < W.heap.size → w'.cell? ⟨b, o, none⟩ = W.cell? ⟨b, o, none⟩) ∧ Below W.heap.size W w')
    ((refine kp ?_; (repeat' (first | with_reducible exact Below.refl _ _ | with_reducible refine Below.drew ?_ | with_reducible refine bel_alloc ?_ ?_ _)); all_goals (first | omega | (simp <;> omega))))
    (first
      | (go_at_call 91; refine (errorIf_c _ _ _).mono ?_; rintro e_ w_ ⟨rfl, rfl⟩)
      | (go_at_call 92; refine (outside_c _ _ _ _).mono ?_; rintro e_ w_ ⟨rfl, rfl⟩)
      | (go_at_call 90; refine (firstError_2D _ _ _).mono ?_; rintro e_ w_ ⟨rfl, rfl⟩)
      | (go_at_call 90; refine (firstError_2 _ _ _).mono ?_; rintro e_ w_ ⟨rfl, rfl⟩))
  go_wp2
  go_ret
  exact ⟨rfl, bel_tr hbel (by omega) (bel_alloc (Below.refl _ _) (Nat.le_refl _) _).drew⟩

theorem checkSky_c (base : Int) (A : Option Addr) (c : Nat) (l : List G) (w : World) (hr : Rd w A (gs l)) (hl : l.length ≤ 1000) :
    Calls Try.prog 17 #[.agg #[.int .i64 base, .slice A l.length c]] w fun r w' => r = .returned (.tuple #[.int .i64 (skyE base l).1, .int .i64 (skyE base l).2]) ∧ Below w.heap.size w w' := by
  have hX := Blk.new w 24 [.int .i64 base, .slice A l.length c]
  have hbel := alloc_bel w (.cells #[.int .i64 base, .slice A l.length c] 24)
  have hrW := hr.alloc (.cells #[.int .i64 base, .slice A l.length c] 24)
  generalize hW : w.alloc (.cells #[.int .i64 base, .slice A l.length c] 24) = W at hX hbel hrW
  have HW := hide hW
  clear hW
  have c0 := hX.cell 0; have c1 := hX.cell 1; simp only [List.getElem?_cons_zero, List.getElem?_cons_succ] at c0 c1
  have hzW := hX.lt
  go_enter Try.func17, Try.ntmps17
  go_wp2
  rw [HW.out]
  clear hX
  go_region_held3 (fun w' => (∀ b o, b < W.heap.size → w'.cell? ⟨b, o, none⟩ = W.cell? ⟨b, o, none⟩) ∧ Below W.heap.size W w')
    ((refine kp ?_; (repeat' (first | with_reducible exact Below.refl _ _ | with_reducible refine Below.drew ?_ | with_reducible refine bel_alloc ?_ ?_ _)); all_goals (first | omega | (simp <;> omega))))
    (first
      | (go_at_call 91; refine (errorIf_c _ _ _).mono ?_; rintro e_ w_ ⟨rfl, rfl⟩)
      | (go_at_call 92; refine (outside_c _ _ _ _).mono ?_; rintro e_ w_ ⟨rfl, rfl⟩)
      | (go_at_call 90; refine (firstError_3D _ _ _ _).mono ?_; rintro e_ w_ ⟨rfl, rfl⟩)
      | (go_at_call 90; refine (firstError_3 _ _ _ _).mono ?_; rintro e_ w_ ⟨rfl, rfl⟩))
  rw [show firstE [errIf (outB base 1 500) 2, errIf ((l.length : Int) == 0) 10, errIf (decide (12 < (l.length : Int))) 8] = skyHead base l.length from rfl]
  have hb1 : Below w.heap.size w (W.alloc (.cells #[.int .i64 (errIf (outB base 1 500) 2), .int .i64 (errIf ((l.length : Int) == 0) 10), .int .i64 (errIf (decide (12 < (l.length : Int))) 8)] 29)).drew := bel_tr hbel (by omega) (bel_alloc (Below.refl _ _) (Nat.le_refl _) _).drew
  have hb2 : Below W.heap.size W (W.alloc (.cells #[.int .i64 (errIf (outB base 1 500) 2), .int .i64 (errIf ((l.length : Int) == 0) 10), .int .i64 (errIf (decide (12 < (l.length : Int))) 8)] 29)).drew := (bel_alloc (Below.refl _ _) (Nat.le_refl _) _).drew
  generalize (W.alloc (.cells #[.int .i64 (errIf (outB base 1 500) 2), .int .i64 (errIf ((l.length : Int) == 0) 10), .int .i64 (errIf (decide (12 < (l.length : Int))) 8)] 29)).drew = W2 at hb1 hb2 ⊢
  have hr2 := hrW.bel hb2
  have d1 := (hb2.cell (p := ⟨w.heap.size, 1, none⟩) (by omega)).trans c1
  clear c0 c1 hrW HW
  by_cases h0 : skyHead base l.length = 0
  · have e1 : (skyHead base l.length != 0) = false := by simpa using h0
    have HR : Hid (skyE base l = firstBadFrom (fun _ g => slabE g) 0 l) := by show _ = _; unfold skyE; rw [if_pos h0]
    clear h0
    go_wp2_with (first | (go_at_call 93; refine (firstBadG_c (fun _ g => slabE g) _ l _ _ _ _ hr2 hl Try.call94 (fun k h W _ => checkSky1_c _ _ _ _)).mono ?_; rintro e w2 ⟨rfl, hb3⟩))
    go_ret2
    exact ⟨by rw [HR.out]; rfl, bel_tr hb1 hb1.size hb3⟩
  · have e1 : (skyHead base l.length != 0) = true := by simpa using h0
    have HR : Hid (skyE base l = (0, skyHead base l.length)) := by show _ = _; unfold skyE; rw [if_neg h0]
    clear h0
    go_wp2
    go_ret2
    exact ⟨by rw [HR.out]; rfl, hb1⟩

theorem skyError_c (base : Int) (A : Option Addr) (c : Nat) (l : List G) (w : World) (hr : Rd w A (gs l)) (hl : l.length ≤ 1000) :
    Calls Try.prog 95 #[.agg #[.int .i64 base, .slice A l.length c]] w fun r w' => r = .returned (.int .i64 (skyE base l).2) ∧ Below w.heap.size w w' := by
  have HC := hide (fun W h => checkSky_c base A c l W h hl)
  generalize (skyE base l).1 = i at HC
  generalize (skyE base l).2 = e at HC ⊢
  go_enter Try.func95, Try.ntmps95
  go_wp2_with (first | (go_at_call 17; refine (HC.out _ (hr.alloc _)).mono ?_; rintro e w1 ⟨rfl, hb1⟩))
  go_ret
  exact ⟨rfl, bel_tr (alloc_bel _ _) (by simp) hb1⟩
end Go.Proofs.Ytkcjiejdjdcbeaa
