/- Contracts: whole numbers copied, traces compared, the first of whole numbers that is bad. -/
import Derived.Test.YtdeehodekilaiaaU0
import Derived.Test.YtdeehodekilaiaaF11
set_option linter.unusedSimpArgs false
set_option linter.unusedVariables false
namespace Go.Proofs.Ytdeehodekilaiaa
open Go.RowKit
set_option maxRecDepth 100000

theorem Try.infoN : (Try.prog.info? 3).map (fun i => (i.zero, i.size, i.bytes)) = some (some (.int .i64 0), 1, 8) := by kernel_rfl

theorem copyInts_c (l : List Int) (A : Option Addr) (c : Nat) (w : World) (hr : Rd w A (ints l)) (hl : l.length ≤ 100000) :
    Calls Try.prog 10 #[.slice A l.length c] w fun r w' => (∃ A' c', r = .returned (.slice A' l.length c') ∧ Rd w' A' (ints l)) ∧ Below w.heap.size w w' := by
  obtain ⟨i0, hi, iz0, iz1, iz2⟩ := info_parts Try.infoN
  go_enter Try.func10, Try.ntmps10
  go_wp2_with (first | (at_builtin; refine wpList_append_rd _ rfl _ _ 25 rfl w.heap.size 3 i0 (.int .i64 0) 1 8 Try.underlying25 hi iz0 iz1 iz2 rfl (by decide) (.slice (some ⟨w.heap.size, 0, none⟩) 0 0) 0 [] rfl (World.ownsRow_made w #[] 0 (Nat.le_refl _) (by unfold maxLen; omega) rfl) A l.length c (ints l) rfl (by simp) (hr.alloc _) (ints_one l) (by unfold maxLen; omega) (by omega) (by simp) ?_; intro v' w1 hown1 hg1))
  obtain ⟨A', c', rfl⟩ := ownsRow_slice hown1
  have hb : Below w.heap.size w w1 := ((Below.refl _ _).alloc (Nat.le_refl _) (.cells #[] 3)).grown hg1 (by simp) (by simp [Value.ownBlock])
  go_ret
  exact ⟨⟨A', c', by rw [Nat.zero_add]; rfl, by simpa using Rd.of_own hown1⟩, hb⟩

/-- A trace compared with one that reads the same. -/
theorem sameTrace_eq (after width : Int) (A B : Option Addr) (c d : Nat) (l : List PT) (w : World) (hr : Rd w A (ps l)) (hs : Rd w B (ps l)) (hl : l.length ≤ 1000) :
    Calls Try.prog 12 #[.agg #[.slice A l.length c, .int .i64 after, .int .i64 width], .agg #[.slice B l.length d, .int .i64 after, .int .i64 width]] w fun r w' => r = .returned (.bool true) ∧ Below w.heap.size w w' := by
  obtain ⟨W0, hW0⟩ : ∃ W0, (w.alloc (.cells #[.slice A l.length c, .int .i64 after, .int .i64 width] 30)).alloc (.cells #[.slice B l.length d, .int .i64 after, .int .i64 width] 30) = W0 := ⟨_, rfl⟩
  obtain ⟨p, hp⟩ : ∃ p, w.heap.size = p := ⟨_, rfl⟩
  have hX0 : Blk W0 p 30 [.slice A l.length c, .int .i64 after, .int .i64 width] := by rw [← hW0, ← hp]; exact (two_new w _ _ [_, _, _] [_, _, _]).1
  have hY0 : Blk W0 (p + 1) 30 [.slice B l.length d, .int .i64 after, .int .i64 width] := by rw [← hW0, ← hp]; exact (two_new w _ _ [_, _, _] [_, _, _]).2.1
  have hB0 : Below p w W0 := by rw [← hW0, ← hp]; exact (two_new w _ _ [_, _, _] [_, _, _]).2.2
  have hr0 := hr.bel (by rw [hp]; exact hB0)
  have hs0 := hs.bel (by rw [hp]; exact hB0)
  have HW := hide hW0
  clear hW0 hr hs
  have c0 := hX0.cell 0; have c1 := hX0.cell 1; have c2 := hX0.cell 2; simp only [List.getElem?_cons_zero, List.getElem?_cons_succ] at c0 c1 c2
  have d0 := hY0.cell 0; have d1 := hY0.cell 1; have d2 := hY0.cell 2; simp only [List.getElem?_cons_zero, List.getElem?_cons_succ] at d0 d1 d2
  have z0 := hY0.lt
  have e0 : (after != after) = false := by simp
  have e1 : (width != width) = false := by simp
  have e2 : ((l.length : Int) != (l.length : Int)) = false := by simp
  go_enter Try.func12, Try.ntmps12
  go_upto_region 1 with fail
  rw [HW.out]
  go_wp2
  clear c0 c1 c2 d0 d1 d2 e0 e1 e2
  go_loopw [5] (fun i wr => ∃ k : Nat, k ≤ l.length ∧ i = .int .i64 k ∧ Below W0.heap.size W0 wr) (fun i _ => l.length - (intOf i).toNat)
  case atStart => exact ⟨0, Nat.zero_le _, rfl, Below.refl _ _⟩
  case round =>
    obtain ⟨k, hk, rfl, hb⟩ := hrel
    have hXr := hX0.bel hb
    have hYr := hY0.bel hb
    have c0 := hXr.cell 0; have c1 := hXr.cell 1; have c2 := hXr.cell 2; simp only [List.getElem?_cons_zero, List.getElem?_cons_succ] at c0 c1 c2
    have d0 := hYr.cell 0; have d1 := hYr.cell 1; have d2 := hYr.cell 2; simp only [List.getElem?_cons_zero, List.getElem?_cons_succ] at d0 d1 d2
    have z1 := hYr.lt
    by_cases hlt : k < l.length
    · obtain ⟨b, off, rfl, hblt, hc0, hc1, hc2⟩ := (hr0.bel hb).p_at hlt
      obtain ⟨b', off', rfl, hblt', hc0', hc1', hc2'⟩ := (hs0.bel hb).p_at hlt
      generalize l[k] = g at hc0 hc1 hc2 hc0' hc1' hc2'
      obtain ⟨ga, gb, gc⟩ := g
      dsimp only at hc0 hc1 hc2 hc0' hc1' hc2'
      go_wp2
      go_quiet (fail)
      go_wp2
      go_roundw
      case rel => exact ⟨k + 1, by omega, by go_num, below_drewN hb _⟩
      case measure => simp [intOf]; omega
    · obtain rfl : k = l.length := by omega
      go_wp2
      go_ret
      exact ⟨rfl, by rw [hp]; exact bel_tr hB0 (by omega) hb⟩

/-- firstBad at whole numbers, with what a check may store. -/
theorem firstBadI_c (chk : Nat → Int → Int) (f : FuncId) (l : List Int) (A : Option Addr) (c : Nat) (cap : Array Value) (I : Nat → World → Prop) (J : World → Prop) (w : World)
    (hRd : ∀ k W, I k W → Rd W A (ints l)) (hl : l.length ≤ 1000)
    (hE : ∀ (args : Array Value) (W : World), (callFunc f args).run Try.prog W = .ok (.enter f args) W)
    (h0 : I 0 w) (hJ : ∀ k W, I k W → J W)
    (hchk : ∀ (k : Nat) (h : k < l.length) (W : World), I k W → Calls Try.prog f (#[.int .i64 k, .int .i64 l[k]] ++ cap) W fun r W' => r = .returned (.int .i64 (chk k l[k])) ∧ (chk k l[k] = 0 → I (k + 1) W') ∧ J W') :
    Calls Try.prog 36 #[.slice A l.length c, .func (.func f) #[] cap] w fun r w' => r = .returned (.tuple #[.int .i64 (firstBadFrom chk 0 l).1, .int .i64 (firstBadFrom chk 0 l).2]) ∧ ((firstBadFrom chk 0 l).2 = 0 → I l.length w') ∧ J w' := by
  have HC := hide hchk
  have HI := hide h0
  have HRD := hide hRd
  have HJ := hide hJ
  clear hchk h0 hRd hJ
  go_enter Try.func36, Try.ntmps36
  go_wp2
  go_loopw [11] (fun i wr => ∃ k : Nat, k ≤ l.length ∧ i = .int .i64 k ∧ Hid (I k wr) ∧ Hid (∀ j (h : j < l.length), j < k → chk j l[j] = 0)) (fun i _ => l.length - (intOf i).toNat)
  case atStart => exact ⟨0, Nat.zero_le _, rfl, HI, fun _ _ h => by omega⟩
  case round =>
    obtain ⟨k, hk, rfl, hi, h0⟩ := hrel
    by_cases hlt : k < l.length
    · obtain ⟨b, off, rfl, hblt, hc0⟩ := (HRD.out k wr hi.out).int_at hlt
      by_cases hz : chk k l[k] = 0
      · have H1 : Hid (∀ j (h : j < l.length), j < k + 1 → chk j l[j] = 0) := fun j h hj => by
          by_cases e : j = k
          · subst e; exact hz
          · exact h0.out j h (by omega)
        have HZ := hide hz
        go_wp2_with (refine (HC.out k hlt _ hi.out).mono ?_; rintro e w' ⟨rfl, hb1, hb2⟩)
        have HI1 := hide (hb1 HZ.out)
        clear hb1 hb2
        go_roundw
        case rel => exact ⟨k + 1, by omega, by go_num, HI1, H1⟩
        case measure => simp [intOf]; omega
      · have H1 : Hid (firstBadFrom chk 0 l = ((k : Int), chk k l[k])) := by
          have := firstBadFrom_some chk l 0 k hlt (fun i hi => by simpa using h0.out i (by omega) hi) (by simpa using hz)
          show firstBadFrom chk 0 l = _; simpa using this
        go_wp2_with (refine (HC.out k hlt _ hi.out).mono ?_; rintro e w' ⟨rfl, hb1, hb2⟩)
        go_ret2
        exact ⟨by rw [H1.out]; rfl, fun h => absurd (by rw [H1.out] at h; exact h) hz, hb2⟩
    · have H1 : Hid (firstBadFrom chk 0 l = (0, 0)) := firstBadFrom_none chk l 0 fun i hi => by simpa using h0.out i hi (by omega)
      obtain rfl : k = l.length := by omega
      go_wp2
      go_ret2
      exact ⟨by rw [H1.out]; rfl, fun _ => hi.out, HJ.out _ _ hi.out⟩
end Go.Proofs.Ytdeehodekilaiaa
