/- Contracts: layers, as the program counts them. -/
import Derived.Test.YtgnhkjfdicdcmaaJ2
namespace Go.Proofs.Ytgnhkjfdicdcmaa
open Go.RowKit
set_option maxRecDepth 100000

theorem layersOf_bad (base : Int) (A : Option Addr) (c : Nat) (l : List G) (w : World) (hr : Rd w A (gs l)) (hl : l.length ≤ 1000) (he : (proE base l).2 ≠ 0) :
    Calls Try.prog 27 #[.agg #[.int .i64 base, .slice A l.length c]] w fun r w' => r = .returned (.tuple #[.slice none 0 0, .int .i64 (proE base l).2]) ∧ Below w.heap.size w w' := by
  have HE := hide (fun W h => profileError_c base A c l W h hl)
  obtain ⟨W0, hW0⟩ : ∃ W0, w.alloc (.cells #[.int .i64 base, .slice A l.length c] 24) = W0 := ⟨_, rfl⟩
  have hX0 : Blk W0 w.heap.size 24 [.int .i64 base, .slice A l.length c] := by rw [← hW0]; exact Blk.new w _ [_, _]
  have hB0 : Below w.heap.size w W0 := by rw [← hW0]; exact alloc_bel w _
  have hr0 := hr.bel hB0
  have HW := hide hW0
  clear hW0 hr
  have c0 := hX0.cell 0; have c1 := hX0.cell 1; simp only [List.getElem?_cons_zero, List.getElem?_cons_succ] at c0 c1
  have z0 := hX0.lt
  have e1 : ((proE base l).2 != 0) = true := by simpa using he
  clear he
  generalize (proE base l).2 = E at HE e1 ⊢
  go_enter Try.func27, Try.ntmps27
  go_upto_region 1 with fail
  rw [HW.out]
  go_wp2_with (first | (go_at_call 76; refine (HE.out _ hr0).mono ?_; rintro e w1 ⟨rfl, hb1⟩))
  exact bodyPost_ret (v := .tuple #[.slice none 0 0, .int .i64 E]) (by simp [results, Try.results27, go_sem]; try rfl) rfl ⟨rfl, bel_tr hB0 (by omega) hb1⟩

theorem tI_get {T : List Nat} {k : Nat} (h : k < T.length) : (tI T)[k]'(by simpa using h) = ((T[k] : Nat) : Int) := by simp [tI]
set_option maxHeartbeats 4000000 in
theorem layersOf_ok (base : Int) (A : Option Addr) (c : Nat) (l : List G) (w : World) (hr : Rd w A (gs l)) (hP : Pro base l) :
    Calls Try.prog 27 #[.agg #[.int .i64 base, .slice A l.length c]] w fun r w' => (∃ A' c', r = .returned (.tuple #[.slice A' (layR l l.length).length c', .int .i64 0]) ∧ Rd w' A' (ints (layR l l.length))) ∧ Below w.heap.size w w' := by
  obtain ⟨i0, hi, iz0, iz1, iz2⟩ := info_parts Try.infoI
  have hn := hP.n1
  have hl : l.length ≤ 1000 := by omega
  have HE := hide (fun W h => profileError_c base A c l W h hl)
  rw [hP.err] at HE
  dsimp only at HE
  have HEQ := hide (lay_eq l (Nat.le_refl l.length))
  have HTL := hide (fun k => thickN_length l k)
  have HTM := hide (fun k i => thickN_mem (l := l) (k := k) (i := i))
  clear hP
  obtain ⟨W0, hW0⟩ : ∃ W0, w.alloc (.cells #[.int .i64 base, .slice A l.length c] 24) = W0 := ⟨_, rfl⟩
  have hX0 : Blk W0 w.heap.size 24 [.int .i64 base, .slice A l.length c] := by rw [← hW0]; exact Blk.new w _ [_, _]
  have hB0 : Below w.heap.size w W0 := by rw [← hW0]; exact alloc_bel w _
  have hr0 := hr.bel hB0
  have HW := hide hW0
  clear hW0 hr
  have c0 := hX0.cell 0; have c1 := hX0.cell 1; simp only [List.getElem?_cons_zero, List.getElem?_cons_succ] at c0 c1
  have z0 := hX0.lt
  go_enter Try.func27, Try.ntmps27
  go_upto_region 1 with fail
  rw [HW.out]
  go_upto_region 4 with (first | (go_at_call 76; refine (HE.out _ hr0).mono ?_; rintro e w1 ⟨rfl, hb1⟩; have hX1 := hX0.bel hb1; have k0 := hX1.cell 0; have k1 := hX1.cell 1; simp only [List.getElem?_cons_zero, List.getElem?_cons_succ] at k0 k1; have zk := hX1.lt))
  have hr1 := hr0.bel hb1
  have hB1 := bel_tr hB0 (by omega) hb1
  have zx := hX1.lt
  go_wp2
  clear k0 k1 zk c0 c1 hX0 hr0 z0 hb1 HE hB0
  obtain ⟨q, hq⟩ : ∃ q, w1.heap.size = q := ⟨_, rfl⟩
  go_loopw [5, 21] (fun v x wr => ∃ k : Nat, k ≤ l.length ∧ x = .int .i64 k ∧ Below q w1 wr ∧ wr.ownsRow q 3 1 v (thickN l k).length (ints (tI (thickN l k)))) (fun _ x _ => l.length - (intOf x).toNat)
  case atStart => exact ⟨0, Nat.zero_le _, rfl, Below.refl _ _, World.ownsRow_nil _ _ _ _⟩
  case round =>
    obtain ⟨k, hk, rfl, hbr, hown⟩ := hrel
    have hXr := hX1.below hbr (by omega)
    have hrr := hr1.below hbr (by omega)
    have hqr : q ≤ wr.heap.size := by rw [← hq]; exact hbr.size
    have hTk := HTL.out k
    by_cases hlt : k < l.length
    · obtain ⟨b, off, rfl, hblt, hc0, hc1⟩ := hrr.g_at hlt
      have HX : Hid (thickN l (k + 1) = if 0 < l[k].2 then thickN l k ++ [k] else thickN l k) := by show _ = _; rw [thickN, getD_at hlt]
      generalize l[k].1 = s1 at hc0
      generalize l[k].2 = t1 at hc1 HX
      generalize thickN l k = T at hown hTk HX
      have c0 := hXr.cell 0; have c1 := hXr.cell 1; simp only [List.getElem?_cons_zero, List.getElem?_cons_succ] at c0 c1
      have z1 := hXr.lt
      go_upto_region 8 with fail
      obtain ⟨W3, hW3⟩ : ∃ W3, wr.alloc (.cells #[.int .i64 s1, .int .i64 t1] 69) = W3 := ⟨_, rfl⟩
      have hb3 : Below wr.heap.size wr W3 := by rw [← hW3]; exact alloc_bel _ _
      have hP3 : Blk W3 wr.heap.size 69 [.int .i64 s1, .int .i64 t1] := by rw [← hW3]; exact Blk.new wr _ [_, _]
      have hown3 := ownsRow_bel hown hb3
      have hbr3 : Below q w1 W3 := hbr.trans (hb3.mono hqr)
      rw [hW3]
      clear hW3 hc0 hc1 c0 c1 z1 hown hXr hrr hb3
      have g0 := hP3.cell 0; have g1 := hP3.cell 1; simp only [List.getElem?_cons_zero, List.getElem?_cons_succ] at g0 g1
      have z4 := hP3.lt
      have hq3 : q ≤ W3.heap.size := by omega
      obtain ⟨LA, lc, rfl⟩ := ownsRow_slice hown3
      by_cases ht : 0 < t1
      · have HF : Hid (thickN l (k + 1) = T ++ [k]) := by show _ = _; rw [HX.out, if_pos ht]
        clear HX
        go_upto_region 9 with fail
        go_wp2_with (at_builtin; refine wpList_append_own _ rfl _ _ 40 rfl q 3 i0 _ 1 8 Try.underlying40 hi iz0 iz1 iz2 rfl (by decide) _ _ _ rfl (hown3.alloc _) ⟨W3.heap.size, 0, none⟩ 1 1 [.int .i64 k] rfl rfl (World.news_of_block (heap_alloc_new W3 _)) (by simp [Value.oneCell']) (by unfold maxLen; omega) (by omega) (by simp; omega) ?_; intro v' w8 hown8 hg8 _)
        have hb8 : Below q w1 w8 := (bel_alloc hbr3 hq3 _).grown hg8 (by simp; omega) (fun j hj => by have := (hown3.lt j hj).1; omega)
        go_roundw
        case rel => exact ⟨k + 1, by omega, by go_num, hb8, by rw [HF.out, tI_append]; simpa [ints_append, ints] using hown8⟩
        case measure => simp [intOf]; omega
      · have HF : Hid (thickN l (k + 1) = T) := by show _ = _; rw [HX.out, if_neg ht]
        clear HX
        go_wp2
        go_roundw
        case rel => exact ⟨k + 1, by omega, by go_num, hbr3, by rw [HF.out]; exact hown3⟩
        case measure => simp [intOf]; omega
    · obtain rfl : k = l.length := by omega
      obtain ⟨TA, tc, rfl⟩ := ownsRow_slice hown
      have hB2 := hB1.trans (hbr.mono (by omega))
      have zx2 := hXr.lt
      have hrT := Rd.of_own hown
      have HM := hide (fun i h => HTM.out l.length i h)
      clear hown hbr hX1 hr1 hB1 HTM HTL hk hlt
      generalize thickN l l.length = T at hTk hrT HEQ HM
      go_wp2
      obtain ⟨w2, hw2⟩ : ∃ w2, wr = w2 := ⟨_, rfl⟩
      rw [hw2] at hXr hrr hB2 hrT hqr zx2 ⊢
      clear hw2 wr hqr
      obtain ⟨q2, hq2⟩ : ∃ q2, w2.heap.size = q2 := ⟨_, rfl⟩
      have HLL := hide (fun k => layP_length l T k)
      go_loopw [6, 36] (fun v x wr => ∃ k : Nat, k ≤ T.length ∧ x = .int .i64 k ∧ Below q2 w2 wr ∧ wr.ownsRow q2 3 1 v (layP l T k).length (ints (layP l T k))) (fun _ x _ => T.length - (intOf x).toNat)
      case atStart => exact ⟨0, Nat.zero_le _, rfl, Below.refl _ _, World.ownsRow_nil _ _ _ _⟩
      case round =>
        obtain ⟨k, hk, rfl, hbr, hown⟩ := hrel
        have hX3 := hXr.below hbr (by omega)
        have hr3 := hrr.below hbr (by omega)
        have hT3 := hrT.below hbr (by omega)
        have hLk := HLL.out k
        have hqr : q2 ≤ wr.heap.size := by rw [← hq2]; exact hbr.size
        have c0 := hX3.cell 0; have c1 := hX3.cell 1; simp only [List.getElem?_cons_zero, List.getElem?_cons_succ] at c0 c1
        have z1 := hX3.lt
        obtain ⟨LA, lc, rfl⟩ := ownsRow_slice hown
        by_cases hlt : k < T.length
        · have hkI : k < (tI T).length := by simpa using hlt
          obtain ⟨tb, toff, rfl, _, ht0⟩ := hT3.int_at hkI
          rw [tI_get hlt] at ht0
          have hil : T[k] < l.length := HM.out _ (List.getElem_mem hlt)
          obtain ⟨b, off, rfl, hblt, hc0, _⟩ := hr3.g_at hil
          have HX : Hid (layP l T (k + 1) = if max (belowT l T k) (aboveT l T k) < l[T[k]].1 then layP l T k ++ [((T[k] : Nat) : Int)] else layP l T k) := by show _ = _; rw [layP]; unfold sqT; rw [getD_at hlt, getD_at hil]
          have HBL : Hid (belowT l T k = if 0 < k then sqT l T (k - 1) else 0) := rfl
          have HAB : Hid (aboveT l T k = if (k : Int) < (T.length : Int) - 1 then sqT l T (k + 1) else 0) := rfl
          generalize layP l T k = L at hown hLk HX
          generalize l[T[k]].1 = s1 at hc0 HX
          generalize belowT l T k = bl at HX HBL
          generalize aboveT l T k = ab at HX HAB
          have hTk0 : ((T[k] : Nat) : Int) < (l.length : Int) := by omega
          by_cases h1 : 0 < k
          · have hk1 : k - 1 < T.length := by omega
            obtain ⟨_, _, e, _, hp0⟩ := hT3.int_at (show k - 1 < (tI T).length by simpa using hk1)
            cases e
            rw [tI_get hk1] at hp0
            have hpl : T[k - 1] < l.length := HM.out _ (List.getElem_mem hk1)
            obtain ⟨_, _, e, _, hp1, _⟩ := hr3.g_at hpl
            cases e
            have HBL2 : Hid (bl = l[T[k - 1]].1) := by show _ = _; rw [HBL.out, if_pos h1]; unfold sqT; rw [getD_at hk1, getD_at hpl]
            generalize l[T[k - 1]].1 = sb at hp1 HBL2
            have hpl' : ((T[k - 1] : Nat) : Int) < (l.length : Int) := by omega
            generalize T[k - 1] = ib at hp0 hp1 hpl'
            rw [HBL2.out] at HX
            clear HBL HBL2
            have ek : ((k : Int) - 1).toNat = k - 1 := by omega
            by_cases h2 : (k : Int) < (T.length : Int) - 1
            · have hk2 : k + 1 < T.length := by omega
              obtain ⟨_, _, e, _, hu0⟩ := hT3.int_at (show k + 1 < (tI T).length by simpa using hk2)
              cases e
              rw [tI_get hk2] at hu0
              have hul : T[k + 1] < l.length := HM.out _ (List.getElem_mem hk2)
              obtain ⟨_, _, e, _, hu1, _⟩ := hr3.g_at hul
              cases e
              have HAB2 : Hid (ab = l[T[k + 1]].1) := by show _ = _; rw [HAB.out, if_pos h2]; unfold sqT; rw [getD_at hk2, getD_at hul]
              generalize l[T[k + 1]].1 = sa at hu1 HAB2
              have hul' : ((T[k + 1] : Nat) : Int) < (l.length : Int) := by omega
              generalize T[k + 1] = ia at hu0 hu1 hul'
              rw [HAB2.out] at HX
              clear HAB HAB2
              generalize T[k] = ik at ht0 hc0 HX hTk0 hil
              have e2 : decide ((k : Int) < (T.length : Int) - 1) = true := decide_eq_true h2
              have eu : ((k : Int) + 1).toNat = k + 1 := by omega
              have emx : (if sb < sa then sa else sb) = max sb sa := by rw [Int.max_def]; split <;> split <;> omega
              rw [← emx] at HX
              clear emx
              by_cases h3 : (if sb < sa then sa else sb) < s1
              · have HF : Hid (layP l T (k + 1) = L ++ [((ik : Nat) : Int)]) := by show _ = _; rw [HX.out, if_pos h3]
                have e3 : decide ((if sb < sa then sa else sb) < s1) = true := decide_eq_true h3
                clear h3 HX
                go_upto_region 16 with fail
                go_quiet (fail)
                go_upto_region 18 with fail
                go_quiet (fail)
                go_upto_region 20 with fail
                go_wp2_with (at_builtin; refine wpList_append_own _ rfl _ _ 40 rfl q2 3 i0 _ 1 8 Try.underlying40 hi iz0 iz1 iz2 rfl (by decide) _ _ _ rfl (World.ownsRow.alloc (w := World.drewN wr _) hown _) ⟨wr.heap.size, 0, none⟩ 1 1 [.int .i64 ik] rfl rfl (World.news_of_block (heap_alloc_new (World.drewN wr _) _)) (by simp [Value.oneCell']) (by unfold maxLen; omega) (by omega) (by simp; omega) ?_; intro v' w8 hown8 hg8 _)
                have hb8 : Below q2 w2 w8 := (bel_alloc (below_drewN hbr _) (by show q2 ≤ wr.heap.size; omega) _).grown hg8 (by simp; omega) (fun j hj => by have := (hown.lt j hj).1; omega)
                go_roundw
                case rel => exact ⟨k + 1, by omega, by go_num, hb8, by rw [HF.out]; simpa [ints_append, ints] using hown8⟩
                case measure => simp [intOf]; omega
              · have HF : Hid (layP l T (k + 1) = L) := by show _ = _; rw [HX.out, if_neg h3]
                have e3 : decide ((if sb < sa then sa else sb) < s1) = false := decide_eq_false h3
                clear h3 HX
                go_wp2
                go_quiet (fail)
                go_wp2
                go_quiet (fail)
                go_wp2
                go_roundw
                case rel => exact ⟨k + 1, by omega, by go_num, below_drewN hbr _, by rw [HF.out]; exact hown⟩
                case measure => simp [intOf]; omega
            · have HAB2 : Hid (ab = 0) := by show _ = _; rw [HAB.out, if_neg h2]
              rw [HAB2.out] at HX
              clear HAB HAB2
              generalize T[k] = ik at ht0 hc0 HX hTk0 hil
              have e2 : decide ((k : Int) < (T.length : Int) - 1) = false := decide_eq_false h2
              have emx : (if sb < 0 then 0 else sb) = max sb 0 := by rw [Int.max_def]; split <;> split <;> omega
              rw [← emx] at HX
              clear emx
              by_cases h3 : (if sb < 0 then 0 else sb) < s1
              · have HF : Hid (layP l T (k + 1) = L ++ [((ik : Nat) : Int)]) := by show _ = _; rw [HX.out, if_pos h3]
                have e3 : decide ((if sb < 0 then 0 else sb) < s1) = true := decide_eq_true h3
                clear h3 HX
                go_upto_region 16 with fail
                go_quiet (fail)
                go_upto_region 20 with fail
                go_wp2_with (at_builtin; refine wpList_append_own _ rfl _ _ 40 rfl q2 3 i0 _ 1 8 Try.underlying40 hi iz0 iz1 iz2 rfl (by decide) _ _ _ rfl (World.ownsRow.alloc (w := World.drewN wr _) hown _) ⟨wr.heap.size, 0, none⟩ 1 1 [.int .i64 ik] rfl rfl (World.news_of_block (heap_alloc_new (World.drewN wr _) _)) (by simp [Value.oneCell']) (by unfold maxLen; omega) (by omega) (by simp; omega) ?_; intro v' w8 hown8 hg8 _)
                have hb8 : Below q2 w2 w8 := (bel_alloc (below_drewN hbr _) (by show q2 ≤ wr.heap.size; omega) _).grown hg8 (by simp; omega) (fun j hj => by have := (hown.lt j hj).1; omega)
                go_roundw
                case rel => exact ⟨k + 1, by omega, by go_num, hb8, by rw [HF.out]; simpa [ints_append, ints] using hown8⟩
                case measure => simp [intOf]; omega
              · have HF : Hid (layP l T (k + 1) = L) := by show _ = _; rw [HX.out, if_neg h3]
                have e3 : decide ((if sb < 0 then 0 else sb) < s1) = false := decide_eq_false h3
                clear h3 HX
                go_wp2
                go_quiet (fail)
                go_wp2
                go_roundw
                case rel => exact ⟨k + 1, by omega, by go_num, below_drewN hbr _, by rw [HF.out]; exact hown⟩
                case measure => simp [intOf]; omega
          · have h1' : k = 0 := by omega
            have HBL2 : Hid (bl = 0) := by show _ = _; rw [HBL.out, if_neg h1]
            rw [HBL2.out] at HX
            clear HBL HBL2
            have ek : decide ((0 : Int) < (k : Int)) = false := decide_eq_false (by omega)
            clear h1'
            by_cases h2 : (k : Int) < (T.length : Int) - 1
            · have hk2 : k + 1 < T.length := by omega
              obtain ⟨_, _, e, _, hu0⟩ := hT3.int_at (show k + 1 < (tI T).length by simpa using hk2)
              cases e
              rw [tI_get hk2] at hu0
              have hul : T[k + 1] < l.length := HM.out _ (List.getElem_mem hk2)
              obtain ⟨_, _, e, _, hu1, _⟩ := hr3.g_at hul
              cases e
              have HAB2 : Hid (ab = l[T[k + 1]].1) := by show _ = _; rw [HAB.out, if_pos h2]; unfold sqT; rw [getD_at hk2, getD_at hul]
              generalize l[T[k + 1]].1 = sa at hu1 HAB2
              have hul' : ((T[k + 1] : Nat) : Int) < (l.length : Int) := by omega
              generalize T[k + 1] = ia at hu0 hu1 hul'
              rw [HAB2.out] at HX
              clear HAB HAB2
              generalize T[k] = ik at ht0 hc0 HX hTk0 hil
              have e2 : decide ((k : Int) < (T.length : Int) - 1) = true := decide_eq_true h2
              have eu : ((k : Int) + 1).toNat = k + 1 := by omega
              have emx : (if 0 < sa then sa else 0) = max 0 sa := by rw [Int.max_def]; split <;> split <;> omega
              rw [← emx] at HX
              clear emx
              by_cases h3 : (if 0 < sa then sa else 0) < s1
              · have HF : Hid (layP l T (k + 1) = L ++ [((ik : Nat) : Int)]) := by show _ = _; rw [HX.out, if_pos h3]
                have e3 : decide ((if 0 < sa then sa else 0) < s1) = true := decide_eq_true h3
                clear h3 HX
                go_upto_region 18 with fail
                go_quiet (fail)
                go_upto_region 20 with fail
                go_wp2_with (at_builtin; refine wpList_append_own _ rfl _ _ 40 rfl q2 3 i0 _ 1 8 Try.underlying40 hi iz0 iz1 iz2 rfl (by decide) _ _ _ rfl (World.ownsRow.alloc (w := World.drewN wr _) hown _) ⟨wr.heap.size, 0, none⟩ 1 1 [.int .i64 ik] rfl rfl (World.news_of_block (heap_alloc_new (World.drewN wr _) _)) (by simp [Value.oneCell']) (by unfold maxLen; omega) (by omega) (by simp; omega) ?_; intro v' w8 hown8 hg8 _)
                have hb8 : Below q2 w2 w8 := (bel_alloc (below_drewN hbr _) (by show q2 ≤ wr.heap.size; omega) _).grown hg8 (by simp; omega) (fun j hj => by have := (hown.lt j hj).1; omega)
                go_roundw
                case rel => exact ⟨k + 1, by omega, by go_num, hb8, by rw [HF.out]; simpa [ints_append, ints] using hown8⟩
                case measure => simp [intOf]; omega
              · have HF : Hid (layP l T (k + 1) = L) := by show _ = _; rw [HX.out, if_neg h3]
                have e3 : decide ((if 0 < sa then sa else 0) < s1) = false := decide_eq_false h3
                clear h3 HX
                go_wp2
                go_quiet (fail)
                go_wp2
                go_roundw
                case rel => exact ⟨k + 1, by omega, by go_num, below_drewN hbr _, by rw [HF.out]; exact hown⟩
                case measure => simp [intOf]; omega
            · have HAB2 : Hid (ab = 0) := by show _ = _; rw [HAB.out, if_neg h2]
              rw [HAB2.out] at HX
              clear HAB HAB2
              generalize T[k] = ik at ht0 hc0 HX hTk0 hil
              have e2 : decide ((k : Int) < (T.length : Int) - 1) = false := decide_eq_false h2
              rw [show max (0 : Int) 0 = 0 from rfl] at HX
              by_cases h3 : 0 < s1
              · have HF : Hid (layP l T (k + 1) = L ++ [((ik : Nat) : Int)]) := by show _ = _; rw [HX.out, if_pos h3]
                have e3 : decide (0 < s1) = true := decide_eq_true h3
                clear h3 HX
                go_upto_region 20 with fail
                go_wp2_with (at_builtin; refine wpList_append_own _ rfl _ _ 40 rfl q2 3 i0 _ 1 8 Try.underlying40 hi iz0 iz1 iz2 rfl (by decide) _ _ _ rfl (hown.alloc _) ⟨wr.heap.size, 0, none⟩ 1 1 [.int .i64 ik] rfl rfl (World.news_of_block (heap_alloc_new wr _)) (by simp [Value.oneCell']) (by unfold maxLen; omega) (by omega) (by simp; omega) ?_; intro v' w8 hown8 hg8 _)
                have hb8 : Below q2 w2 w8 := (bel_alloc hbr (by omega) _).grown hg8 (by simp; omega) (fun j hj => by have := (hown.lt j hj).1; omega)
                go_roundw
                case rel => exact ⟨k + 1, by omega, by go_num, hb8, by rw [HF.out]; simpa [ints_append, ints] using hown8⟩
                case measure => simp [intOf]; omega
              · have HF : Hid (layP l T (k + 1) = L) := by show _ = _; rw [HX.out, if_neg h3]
                have e3 : decide (0 < s1) = false := decide_eq_false h3
                clear h3 HX
                go_wp2
                go_roundw
                case rel => exact ⟨k + 1, by omega, by go_num, hbr, by rw [HF.out]; exact hown⟩
                case measure => simp [intOf]; omega
        · obtain rfl : k = T.length := by omega
          rw [HEQ.out] at hown
          have hrd := Rd.of_own hown
          have HLn : Hid ((layP l T T.length).length = (layR l l.length).length) := by show _ = _; rw [HEQ.out]
          go_wp2
          exact bodyPost_ret (v := .tuple #[.slice LA (layP l T T.length).length lc, .int .i64 0]) (by simp [results, Try.results27, go_sem]; try rfl) rfl ⟨⟨LA, lc, by rw [HLn.out], hrd⟩, hB2.trans (hbr.mono (by omega))⟩
end Go.Proofs.Ytgnhkjfdicdcmaa
