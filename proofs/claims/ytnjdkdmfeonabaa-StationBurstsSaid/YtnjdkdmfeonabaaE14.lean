/- Contracts: comparisons, the examples of the chapter's laws. -/
import Derived.Test.YtnjdkdmfeonabaaE13
set_option linter.unusedSimpArgs false
set_option linter.unusedVariables false
set_option linter.unusedSimpArgs false
set_option linter.unusedVariables false
namespace Go.Proofs.Ytnjdkdmfeonabaa
open Go.RowKit
set_option maxRecDepth 100000

theorem ints_c (l m : List Int) (A B : Option Addr) (c d : Nat) (w : World) (hr : Rd w A (ints l)) (hs : Rd w B (ints m)) (hl : l.length ≤ 1000) :
    Calls Try.prog 14 #[.slice A l.length c, .slice B m.length d] w fun r w' => r = .returned (.bool (decide (l = m))) ∧ Below w.heap.size w w' := by
  by_cases hn : l.length = m.length
  · have e1 : ((l.length : Int) != (m.length : Int)) = false := by simp; omega
    have hm : m.length ≤ 1000 := by omega
    have HN := hide hn
    clear hn
    go_enter Try.func14, Try.ntmps14
    go_wp2
    go_loopw [5] (fun i wr => ∃ k : Nat, k ≤ l.length ∧ i = .int .i64 k ∧ Below w.heap.size w wr ∧ Hid (∀ j (h : j < l.length) (h' : j < m.length), j < k → l[j] = m[j])) (fun i _ => l.length - (intOf i).toNat)
    case atStart => exact ⟨0, Nat.zero_le _, rfl, Below.refl _ _, fun _ _ _ h => by omega⟩
    case round =>
      obtain ⟨k, hk, rfl, hb, h0⟩ := hrel
      by_cases hlt : k < l.length
      · have hlt' : k < m.length := by have := HN.out; omega
        obtain ⟨b, off, rfl, hblt, hc0⟩ := (hr.bel hb).int_at hlt
        obtain ⟨b', off', rfl, hblt', hc0'⟩ := (hs.bel hb).int_at hlt'
        by_cases hz : l[k] = m[k]
        · have e2 : (l[k] != m[k]) = false := by simpa using hz
          have H1 : Hid (∀ j (h : j < l.length) (h' : j < m.length), j < k + 1 → l[j] = m[j]) := fun j h h' hj => by
            by_cases e : j = k
            · subst e; exact hz
            · exact h0.out j h h' (by omega)
          clear hz
          go_wp2
          go_quiet (fail)
          go_wp2
          go_roundw
          case rel => exact ⟨k + 1, by omega, by go_num, below_drewN hb _, H1⟩
          case measure => simp [intOf]; omega
        · have e2 : (l[k] != m[k]) = true := by simpa using hz
          have H : Hid (decide (l = m) = false) := by show decide (l = m) = false; simp; rintro rfl; exact hz rfl
          clear hz
          go_wp2
          go_quiet (fail)
          go_wp2
          go_ret
          exact ⟨by rw [H.out]; rfl, below_drewN hb _⟩
      · have H : Hid (decide (l = m) = true) := by
          show decide (l = m) = true
          simp
          refine List.ext_getElem HN.out fun j h h' => h0.out j h h' (by omega)
        go_wp2
        go_ret
        exact ⟨by rw [H.out]; rfl, hb⟩
  · have H : Hid (decide (l = m) = false) := by show decide (l = m) = false; simp; rintro rfl; exact hn rfl
    have e1 : ((l.length : Int) != (m.length : Int)) = true := by simp; omega
    clear hn
    go_enter Try.func14, Try.ntmps14
    go_wp2
    go_ret
    exact ⟨by rw [H.out]; rfl, Below.refl _ _⟩

/-- A profile compared with one that reads the same. -/

theorem samePacked_c (a b : Int) (l m : List Int) (A B : Option Addr) (c d : Nat) (w : World) (hr : Rd w A (ints l)) (hs : Rd w B (ints m)) (hl : l.length ≤ 1000) :
    Calls Try.prog 13 #[.agg #[.int .i64 a, .slice A l.length c], .agg #[.int .i64 b, .slice B m.length d]] w fun r w' => r = .returned (.bool (decide (a = b ∧ l = m))) ∧ Below w.heap.size w w' := by
  obtain ⟨W, hW⟩ : ∃ W, (w.alloc (.cells #[.int .i64 a, .slice A l.length c] 38)).alloc (.cells #[.int .i64 b, .slice B m.length d] 38) = W := ⟨_, rfl⟩
  have k2 := two_new w 38 38 [.int .i64 a, .slice A l.length c] [.int .i64 b, .slice B m.length d]
  have hX : Blk W w.heap.size 38 [.int .i64 a, .slice A l.length c] := by rw [← hW]; exact k2.1
  have hY : Blk W (w.heap.size + 1) 38 [.int .i64 b, .slice B m.length d] := by rw [← hW]; exact k2.2.1
  have hB : Below w.heap.size w W := by rw [← hW]; exact k2.2.2
  have HI := hide (ints_c l m A B c d W (hr.bel hB) (hs.bel hB) hl)
  have HW := hide hW
  clear hW k2 hr hs
  have c0 := hX.cell 0; have c1 := hX.cell 1; simp only [List.getElem?_cons_zero, List.getElem?_cons_succ] at c0 c1
  have k0 := hY.cell 0; have k1 := hY.cell 1; simp only [List.getElem?_cons_zero, List.getElem?_cons_succ] at k0 k1
  by_cases h : a = b
  · have e1 : (a == b) = true := by simpa using h
    have HR : Hid (decide (a = b ∧ l = m) = decide (l = m)) := by show _ = _; rw [decide_eq_decide]; exact ⟨fun x => x.2, fun x => ⟨h, x⟩⟩
    clear h
    generalize decide (l = m) = r at HI HR
    go_enter Try.func13, Try.ntmps13
    go_upto_region 1 with fail
    rw [HW.out]
    go_wp2_with (first | (go_at_call 14; refine HI.out.mono ?_; rintro e_ w1 ⟨rfl, hb1⟩))
    go_ret
    exact ⟨by rw [HR.out]; rfl, bel_tr hB hB.size hb1⟩
  · have e1 : (a == b) = false := by simpa using h
    have HR : Hid (decide (a = b ∧ l = m) = false) := by show _ = _; rw [decide_eq_false_iff_not]; exact fun x => h x.1
    clear h HI
    go_enter Try.func13, Try.ntmps13
    go_upto_region 1 with fail
    rw [HW.out]
    go_wp2
    go_ret
    exact ⟨by rw [HR.out]; rfl, hB⟩

/-- The series of the examples. -/
def serL : List Int := [5, 5, 5, 5, 5, 5, 9]
theorem plan_net {k : Nat} {v : Value} {w : World} (h : PlanAns 4 netL k v w) : k = 2 ∧ ∃ g o c, v = .slice (some ⟨g, o, none⟩) 4 c ∧ Rd w (some ⟨g, o, none⟩) (ints [0, 1, 0, 1]) := by
  obtain ⟨h1, h2, h3, h4⟩ := h
  have p1 : planF netL 1 4 [] = none := by decide
  have p2 : planF netL 2 4 [] = some [0, 1, 0, 1] := by decide
  have hk : k = 2 := by
    by_cases e : k = 1
    · subst e
      rcases h4 with ⟨h5, _⟩ | ⟨out, g, o, c, h5, _⟩
      · omega
      · rw [p1] at h5; cases h5
    · by_cases e2 : 2 < k
      · have := h3 2 (by omega) e2
        rw [p2] at this
        cases this
      · omega
  subst hk
  refine ⟨rfl, ?_⟩
  rcases h4 with ⟨h5, h6, _⟩ | ⟨out, g, o, c, h5, h6, h7, _⟩
  · rw [p2] at h6; cases h6
  · rw [p2] at h5
    injection h5 with h5
    subst h5
    exact ⟨g, o, c, h6, h7⟩
set_option maxHeartbeats 2000000 in
theorem awake_c (w : World) : Calls Try.prog 4 #[] w fun r w' => r = .returned (.bool true) ∧ Below w.heap.size w w' := by
  have HOF := hide (fun A W h => offsetAt_c A 2 exL 0 300 W h (by decide))
  rw [show atR exL 0 300 = ((396, 400), 0) by decide] at HOF
  have HPK : Hid (∀ A W, Rd W A (ints serL) → Calls Try.prog 10 #[.slice A 7 7] W fun r w' => (∃ A' c', r = .returned (.tuple #[.agg #[.int .i64 2, .slice A' 4 c'], .int .i64 0]) ∧ Rd w' A' (ints [5, 6, 9, 1])) ∧ Below W.heap.size W w') := fun A W h => (packed_ok serL A 7 W h (by decide) (by decide)).mono fun r w' hx => by
    rw [show packR serL = (2, [5, 6, 9, 1]) by decide] at hx
    obtain ⟨⟨A', c', h1, h2⟩, h3⟩ := hx
    exact ⟨⟨A', c', h1, h2.1⟩, h3⟩
  have HPF : Hid (∀ A W, Rd W A (gs netL) → Calls Try.prog 11 #[.agg #[.int .i64 4, .slice A 4 4]] W fun r w' => (∃ g o c, r = .returned (.tuple #[.slice (some ⟨g, o, none⟩) 4 c, .int .i64 2, .int .i64 0]) ∧ Rd w' (some ⟨g, o, none⟩) (ints [0, 1, 0, 1])) ∧ Below W.heap.size W w') := fun A W h => (planFor_ok 4 A 4 netL W h (by decide) (fun W h => checkNet_on 4 A 4 netL W h (by decide) (by decide) (by decide)) (by decide)).mono fun r w' hx => by
    obtain ⟨⟨k, v, h1, h2⟩, h3⟩ := hx
    obtain ⟨rfl, g, o, c, rfl, h4⟩ := plan_net h2
    exact ⟨⟨g, o, c, h1, h4⟩, h3⟩
  have HSP : Hid (∀ A B c W, Rd W A (ints [5, 6, 9, 1]) → Rd W B (ints [5, 6, 9, 1]) → Calls Try.prog 13 #[.agg #[.int .i64 2, .slice A 4 c], .agg #[.int .i64 2, .slice B 4 4]] W fun r w' => r = .returned (.bool true) ∧ Below W.heap.size W w') := fun A B c W h1 h2 => (samePacked_c 2 2 [5, 6, 9, 1] [5, 6, 9, 1] A B c 4 W h1 h2 (by decide)).mono fun r w' hx => by simpa using hx
  have HIN : Hid (∀ A B c W, Rd W A (ints [0, 1, 0, 1]) → Rd W B (ints [0, 1, 0, 1]) → Calls Try.prog 14 #[.slice A 4 c, .slice B 4 4] W fun r w' => r = .returned (.bool true) ∧ Below W.heap.size W w') := fun A B c W h1 h2 => (ints_c [0, 1, 0, 1] [0, 1, 0, 1] A B c 4 W h1 h2 (by decide)).mono fun r w' hx => by simpa using hx
  go_enter Try.func4, Try.ntmps4
  go_upto_region 2 with (first
    | (go_at_call 9; refine (exchanges_c _).mono ?_; rintro e_ w1 ⟨⟨A, rfl, hx⟩, hb1⟩)
    | (go_at_call 8; refine (HOF.out A _ hx).mono ?_; rintro e_ w2 ⟨rfl, hb2⟩))
  have hB2 : Below w.heap.size w w2 := tr hb1 hb2 hb1.size
  obtain ⟨p, hp⟩ : ∃ p, w2.heap.size = p := ⟨_, rfl⟩
  obtain ⟨w3, hw3⟩ : ∃ w3, w2.alloc (.cells #[.int .i64 396, .int .i64 400] 31) = w3 := ⟨_, rfl⟩
  have hP3 : Blk w3 p 31 [.int .i64 396, .int .i64 400] := by rw [← hw3, ← hp]; exact Blk.new w2 _ [_, _]
  have hB3 : Below w.heap.size w w3 := by rw [← hw3]; exact bel_alloc hB2 hB2.size _
  rw [hw3, hp]
  clear hw3 hB2 hx hb1 hb2 HOF hp
  have hR4 : Rd (w3.alloc (.cells #[.int .i64 5, .int .i64 5, .int .i64 5, .int .i64 5, .int .i64 5, .int .i64 5, .int .i64 9] 3)) (some ⟨w3.heap.size, 0, none⟩) (ints serL) := rd_new w3 3 (ints serL)
  have hP4 := hP3.bel (alloc_bel w3 (.cells #[.int .i64 5, .int .i64 5, .int .i64 5, .int .i64 5, .int .i64 5, .int .i64 5, .int .i64 9] 3))
  have hB4 := bel_alloc hB3 hB3.size (.cells #[.int .i64 5, .int .i64 5, .int .i64 5, .int .i64 5, .int .i64 5, .int .i64 5, .int .i64 9] 3)
  go_upto_region 3 with (first
    | (go_at_call 10; refine (HPK.out _ _ hR4).mono ?_; rintro e_ w5 ⟨⟨A', c', rfl, hx5⟩, hb5⟩))
  have hB5 := bel_tr hB4 hB4.size hb5
  have hP5 := hP4.bel hb5
  obtain ⟨q, hq⟩ : ∃ q, w5.heap.size = q := ⟨_, rfl⟩
  obtain ⟨w6, hw6⟩ : ∃ w6, w5.alloc (.cells #[.int .i64 2, .slice A' 4 c'] 38) = w6 := ⟨_, rfl⟩
  have hQ6 : Blk w6 q 38 [.int .i64 2, .slice A' 4 c'] := by rw [← hw6, ← hq]; exact Blk.new w5 _ [_, _]
  have hb6 : Below w5.heap.size w5 w6 := by rw [← hw6]; exact alloc_bel _ _
  have hP6 := hP5.bel hb6
  have hx6 := hx5.bel hb6
  have hB6 := bel_tr hB5 hB5.size hb6
  rw [hw6, hq]
  clear hw6 hR4 hP4 hB4 hP5 hx5 hB5 hb5 hb6 HPK hq hP3 hB3
  go_upto_region 5 with (first
    | (go_at_call 6; refine (checkOfZero_c _).mono ?_; rintro e_ w_ ⟨rfl, rfl⟩)
    | (go_at_call 12; refine (net_c _).mono ?_; rintro e_ w7 ⟨⟨A7, rfl, hx7⟩, hb7⟩)
    | (go_at_call 11; refine (HPF.out _ _ hx7).mono ?_; rintro e_ w8 ⟨⟨g, o, c8, rfl, hx8⟩, hb8⟩))
  have hb68 := tr hb7 hb8 hb7.size
  have hB8 := bel_tr hB6 hB6.size hb68
  have hP8 := hP6.bel hb68
  have hQ8 := hQ6.bel hb68
  have hy8 := hx6.bel hb68
  clear hb68 hb7 hb8 hB6 hP6 hQ6 hx6 hx7 HPF
  have c0 := hP8.cell 0; have c1 := hP8.cell 1; simp only [List.getElem?_cons_zero, List.getElem?_cons_succ] at c0 c1
  have d0 := hQ8.cell 0; have d1 := hQ8.cell 1; simp only [List.getElem?_cons_zero, List.getElem?_cons_succ] at d0 d1
  have hzP := hP8.lt
  have hzQ := hQ8.lt
  have hn9 : Rd (w8.alloc (.cells #[.int .i64 5, .int .i64 6, .int .i64 9, .int .i64 1] 3)) (some ⟨w8.heap.size, 0, none⟩) (ints [5, 6, 9, 1]) := rd_new w8 3 (ints [5, 6, 9, 1])
  have hb9 := alloc_bel w8 (.cells #[.int .i64 5, .int .i64 6, .int .i64 9, .int .i64 1] 3)
  go_wp2_with (first
    | (go_at_call 13; refine (HSP.out _ _ _ _ (hy8.bel hb9) hn9).mono ?_; rintro e_ w10 ⟨rfl, hb10⟩; have hn11 := rd_new w10 3 (ints [0, 1, 0, 1]); have hx11 := ((hx8.bel hb9).bel hb10).bel (alloc_bel w10 (.cells (ints [0, 1, 0, 1]).toArray 3)))
    | (go_at_call 14; refine (HIN.out _ _ _ _ hx11 hn11).mono ?_; rintro e_ w12 ⟨rfl, hb12⟩))
  go_ret
  have s8 := hB8.size
  have s9 := hb9.size
  have s10 := hb10.size
  have HZ : Below w.heap.size w w10 := bel_tr (bel_tr hB8 s8 hb9) (by omega) hb10
  exact ⟨rfl, bel_tr (bel_alloc HZ (by omega) _) (by simp; omega) hb12⟩
end Go.Proofs.Ytnjdkdmfeonabaa
