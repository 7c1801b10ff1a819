/- Contracts: joined profiles. -/
import Derived.Test.YtgnhkjfdicdcmaaJ1
namespace Go.Proofs.Ytgnhkjfdicdcmaa
open Go.RowKit
set_option maxRecDepth 100000

theorem gs_set1 {l : List G} {k : Nat} (hk : k < l.length) (u : Int) : (gs l).set (k * 2 + 1) (.int .i64 u) = gs (l.set k (l[k].1, u)) := by
  rw [← gs_set hk (l[k].1, u)]
  congr 1
  refine (List.ext_getElem? fun j => ?_)
  rw [List.getElem?_set]
  split
  · rename_i e
    subst e
    rw [(gs_at hk).1]
    split
    · rfl
    · rename_i h; exact absurd (by rw [gs_length]; omega) h
  · rfl
theorem joinS_zero {out : List G} {s : G} (h : s.2 = 0) : joinS out s = out := by unfold joinS; rw [if_pos h]
theorem joinS_app {out : List G} {s : G} (h : s.2 ≠ 0) (h2 : out.length = 0 ∨ canJ (out.getD (out.length - 1) G0) s = false) : joinS out s = out ++ [s] := by
  unfold joinS
  rw [if_neg h, if_neg]
  rintro ⟨a, b⟩
  rcases h2 with h2 | h2
  · omega
  · unfold canJ at h2; rw [decide_eq_false_iff_not] at h2; exact h2 b
theorem joinS_set {out : List G} {s : G} (h : s.2 ≠ 0) (h1 : 0 < out.length) (h2 : canJ (out.getD (out.length - 1) G0) s = true) : joinS out s = out.set (out.length - 1) (out[out.length - 1].1, out[out.length - 1].2 + s.2) := by
  unfold joinS
  unfold canJ at h2
  rw [if_neg h, if_pos ⟨by omega, of_decide_eq_true h2⟩, getD_at (by omega)]

set_option maxHeartbeats 1000000 in
theorem joined_bad (base : Int) (A : Option Addr) (c : Nat) (l : List G) (w : World) (hr : Rd w A (gs l)) (hl : l.length ≤ 1000) (he : (proE base l).2 ≠ 0) :
    Calls Try.prog 28 #[.agg #[.int .i64 base, .slice A l.length c]] w fun r w' => r = .returned (.tuple #[.agg #[.int .i64 0, .slice none 0 0], .int .i64 (proE base l).2]) ∧ Below w.heap.size w w' := by
  have HE := hide (fun W h => profileError_c base A c l W h hl)
  obtain ⟨W0, hW0⟩ : ∃ W0, (w.alloc (.cells #[.int .i64 base, .slice A l.length c] 24)).alloc (.cells #[.int .i64 0, .slice none 0 0] 24) = W0 := ⟨_, rfl⟩
  obtain ⟨p, hp⟩ : ∃ p, w.heap.size = p := ⟨_, rfl⟩
  have hX0 : Blk W0 p 24 [.int .i64 base, .slice A l.length c] := by rw [← hW0, ← hp]; exact (two_new w _ _ [_, _] [_, _]).1
  have hR0 : Blk W0 (p + 1) 24 [.int .i64 0, .slice none 0 0] := by rw [← hW0, ← hp]; exact (two_new w _ _ [_, _] [_, _]).2.1
  have hB0 : Below p w W0 := by rw [← hW0, ← hp]; exact (two_new w _ _ [_, _] [_, _]).2.2
  have hr0 := hr.bel (by rw [hp]; exact hB0)
  have HW := hide hW0
  clear hW0 hr
  have c0 := hX0.cell 0; have c1 := hX0.cell 1; simp only [List.getElem?_cons_zero, List.getElem?_cons_succ] at c0 c1
  have z0 := hR0.lt
  have e1 : ((proE base l).2 != 0) = true := by simpa using he
  clear he
  generalize (proE base l).2 = E at HE e1 ⊢
  go_enter Try.func28, Try.ntmps28
  go_upto_region 1 with fail
  rw [HW.out]
  go_upto_region 3 with (first | (go_at_call 76; refine (HE.out _ hr0).mono ?_; rintro e w1 ⟨rfl, hb1⟩))
  have hR1 := hR0.bel hb1
  have hB1 := bel_tr hB0 (by omega) hb1
  have n2 := hR1.frozen 0
  have n3 := hR1.frozen 1
  have n0 := hR1.cell 0; have n1 := hR1.cell 1; simp only [List.getElem?_cons_zero, List.getElem?_cons_succ] at n0 n1
  have n4 := hR1.lt
  go_wp2
  have hRE := (hR1.set_ 0 (.int .i64 0)).set_ 1 (.slice none 0 0)
  have hBE : Below p w ((w1.setCell ⟨p + 1, 0, none⟩ (.int .i64 0)).setCell ⟨p + 1, 1, none⟩ (.slice none 0 0)) := (hB1.setCell (by show p ≤ p + 1; omega) _).setCell (by show p ≤ p + 1; omega) _
  generalize (w1.setCell ⟨p + 1, 0, none⟩ (.int .i64 0)).setCell ⟨p + 1, 1, none⟩ (.slice none 0 0) = WE at hRE hBE ⊢
  have v0 := hRE.cell 0
  have v1 := hRE.cell 1
  simp only [List.set_cons_zero, List.set_cons_succ, List.getElem?_cons_zero, List.getElem?_cons_succ] at v0 v1
  exact bodyPost_ret (v := .tuple #[.agg #[.int .i64 0, .slice none 0 0], .int .i64 E]) (by simp [results, Try.results28, go_sem, v0, v1]; try rfl) rfl ⟨rfl, by rw [hp]; exact hBE⟩

set_option maxHeartbeats 4000000 in
theorem joined_ok (base : Int) (A : Option Addr) (c : Nat) (l : List G) (w : World) (hr : Rd w A (gs l)) (hP : Pro base l) :
    Calls Try.prog 28 #[.agg #[.int .i64 base, .slice A l.length c]] w fun r w' => (∃ A' c', r = .returned (.tuple #[.agg #[.int .i64 base, .slice A' (joined l).length c'], .int .i64 0]) ∧ Rd w' A' (gs (joined l))) ∧ Below w.heap.size w w' := by
  obtain ⟨i0, hi, iz0, iz1, iz2⟩ := info_parts Try.infoS
  have hn := hP.n1
  have hn0 := hP.n0
  have hl : l.length ≤ 1000 := by omega
  have HE := hide (fun W h => profileError_c base A c l W h hl)
  rw [hP.err] at HE
  dsimp only at HE
  have HG := hide (fun k h => joinN_good (l := l) hP.all (k := k) h)
  have HA := hide hP.all
  have HL := hide (fun k => joinN_length l k)
  clear hP
  obtain ⟨W0, hW0⟩ : ∃ W0, (w.alloc (.cells #[.int .i64 base, .slice A l.length c] 24)).alloc (.cells #[.int .i64 0, .slice none 0 0] 24) = W0 := ⟨_, rfl⟩
  obtain ⟨p, hp⟩ : ∃ p, w.heap.size = p := ⟨_, rfl⟩
  have hX0 : Blk W0 p 24 [.int .i64 base, .slice A l.length c] := by rw [← hW0, ← hp]; exact (two_new w _ _ [_, _] [_, _]).1
  have hR0 : Blk W0 (p + 1) 24 [.int .i64 0, .slice none 0 0] := by rw [← hW0, ← hp]; exact (two_new w _ _ [_, _] [_, _]).2.1
  have hB0 : Below p w W0 := by rw [← hW0, ← hp]; exact (two_new w _ _ [_, _] [_, _]).2.2
  have hr0 := hr.bel (by rw [hp]; exact hB0)
  have HW := hide hW0
  clear hW0 hr
  have c0 := hX0.cell 0; have c1 := hX0.cell 1; simp only [List.getElem?_cons_zero, List.getElem?_cons_succ] at c0 c1
  have z0 := hR0.lt
  go_enter Try.func28, Try.ntmps28
  go_upto_region 1 with fail
  rw [HW.out]
  go_upto_region 4 with (first | (go_at_call 76; refine (HE.out _ hr0).mono ?_; rintro e w1 ⟨rfl, hb1⟩; have hX1 := hX0.bel hb1; have k0 := hX1.cell 0; have k1 := hX1.cell 1; simp only [List.getElem?_cons_zero, List.getElem?_cons_succ] at k0 k1; have zk := hX1.lt))
  have hr1 := hr0.bel hb1
  have hR1 := hR0.bel hb1
  have hB1 := bel_tr hB0 (by omega) hb1
  have zr := hR1.lt
  go_wp2
  clear k0 k1 zk c0 c1 hX0 hR0 hr0 z0 hb1 HE
  obtain ⟨q, hq⟩ : ∃ q, w1.heap.size = q := ⟨_, rfl⟩
  go_loopw [5, 18] (fun v x wr => ∃ k : Nat, k ≤ l.length ∧ x = .int .i64 k ∧ Below q w1 wr ∧ wr.ownsRow q 69 2 v (joinN l k).length (gs (joinN l k))) (fun _ x _ => l.length - (intOf x).toNat)
  case atStart => exact ⟨0, Nat.zero_le _, rfl, Below.refl _ _, World.ownsRow_nil _ _ _ _⟩
  case round =>
    obtain ⟨k, hk, rfl, hbr, hown⟩ := hrel
    have hXr := hX1.below hbr (by omega)
    have hrr := hr1.below hbr (by omega)
    have hqr : q ≤ wr.heap.size := by rw [← hq]; exact hbr.size
    have hLk := HL.out k
    by_cases hlt : k < l.length
    · obtain ⟨b, off, rfl, hblt, hc0, hc1⟩ := hrr.g_at hlt
      have hs := HA.out _ (List.getElem_mem hlt)
      have hGk := HG.out k hk
      have HX : Hid (joinN l (k + 1) = joinS (joinN l k) (l[k].1, l[k].2)) := by show _ = _; rw [joinN, getD_at hlt]
      generalize l[k].1 = s1 at hc0 HX hs
      generalize l[k].2 = t1 at hc1 HX hs
      generalize joinN l k = J at hown hLk hGk HX
      have c0 := hXr.cell 0; have c1 := hXr.cell 1; simp only [List.getElem?_cons_zero, List.getElem?_cons_succ] at c0 c1
      have z1 := hXr.lt
      go_upto_region 8 with fail
      obtain ⟨W3, hW3⟩ : ∃ W3, wr.alloc (.cells #[.int .i64 s1, .int .i64 t1] 69) = W3 := ⟨_, rfl⟩
      have hb3 : Below wr.heap.size wr W3 := by rw [← hW3]; exact alloc_bel _ _
      have hP3 : Blk W3 wr.heap.size 69 [.int .i64 s1, .int .i64 t1] := by rw [← hW3]; exact Blk.new wr _ [_, _]
      have hown3 := ownsRow_bel hown hb3
      have hbr3 : Below q w1 W3 := hbr.trans (hb3.mono hqr)
      rw [hW3]
      clear hW3 hc0 hc1 c0 c1 z1 hown hXr hrr
      have g0 := hP3.cell 0; have g1 := hP3.cell 1; simp only [List.getElem?_cons_zero, List.getElem?_cons_succ] at g0 g1
      have z4 := hP3.lt
      have hq3 : q ≤ W3.heap.size := by omega
      by_cases h0 : t1 = 0
      · have HF : Hid (joinN l (k + 1) = J) := by show _ = _; rw [HX.out, joinS_zero h0]
        obtain ⟨LA, lc, rfl⟩ := ownsRow_slice hown3
        subst h0
        clear HX
        go_wp2
        go_roundw
        case rel => exact ⟨k + 1, by omega, by go_num, hbr3, by rw [HF.out]; exact hown3⟩
        case measure => simp [intOf]; omega
      · have e0 : (t1 == 0) = false := by simpa using h0
        rcases Nat.eq_zero_or_pos J.length with hJ | hJ
        · have HF : Hid (joinN l (k + 1) = J ++ [(s1, t1)]) := by show _ = _; rw [HX.out, joinS_app h0 (.inl hJ)]
          rw [hJ] at hown3
          obtain ⟨LA, lc, rfl⟩ := ownsRow_slice hown3
          clear h0 HX
          go_upto_region 11 with fail
          go_quiet (fail)
          go_upto_region 9 with fail
          go_wp2_with (at_builtin; refine wpList_append_own _ rfl _ _ 22 rfl q 69 i0 _ 2 16 Try.underlying22 hi iz0 iz1 iz2 rfl (by decide) _ _ _ rfl (World.ownsRow.alloc (w := World.drewN W3 _) hown3 _) ⟨W3.heap.size, 0, none⟩ 1 1 [.int .i64 s1, .int .i64 t1] rfl rfl (World.news_of_block (heap_alloc_new (World.drewN W3 _) _)) (by simp [Value.oneCell']) (by unfold maxLen; omega) (by omega) (by simp; omega) ?_; intro v' w8 hown8 hg8 _)
          have hb8 : Below q w1 w8 := (bel_alloc (below_drewN hbr3 _) (by show q ≤ W3.heap.size; omega) _).grown hg8 (by simp; omega) (fun j hj => by have := (hown3.lt j hj).1; omega)
          go_roundw
          case rel => exact ⟨k + 1, by omega, by go_num, hb8, by rw [HF.out, gs_append]; simpa [hJ, gs_cons] using hown8⟩
          case measure => simp [intOf]; omega
        · obtain ⟨n, hJn⟩ : ∃ n, J.length = n + 1 := ⟨J.length - 1, by omega⟩
          obtain ⟨rg, rc, rfl, hrg, hrl⟩ := World.ownsRow.form hown3 hJ
          have hnJ : n < J.length := by omega
          have x0 := (hown3.cellAt (n * 2) (by omega)).trans (gs_at hnJ).1
          have x1 := (hown3.cellAt (n * 2 + 1) (by omega)).trans (gs_at hnJ).2
          have x2 := hown3.frozenAt (n * 2 + 1)
          have hxg := hGk _ (List.getElem_mem hnJ)
          have HC := hide (fun W => canJoin_c (J[n].1, J[n].2) (s1, t1) W ⟨hxg.2.2.1, hxg.2.2.2⟩ ⟨hs.2.2.1, hs.2.2.2⟩)
          have HS1 := hide (fun h => joinS_set (out := J) (s := (s1, t1)) h0 hJ h)
          have HS2 := hide (fun h => joinS_app (out := J) (s := (s1, t1)) h0 (.inr h))
          have HGS := hide (gs_set1 (l := J) hnJ)
          rw [show J.length - 1 = n by omega, getD_at hnJ] at HS2
          have HS1' : Hid (canJ (J[n].1, J[n].2) (s1, t1) = true → joinS J (s1, t1) = J.set n (J[n].1, J[n].2 + t1)) := by
            intro h
            have := HS1.out (by rw [show J.length - 1 = n by omega, getD_at hnJ]; exact h)
            rw [this]
            congr 2 <;> simp [show J.length - 1 = n by omega]
          have HS2' : Hid (canJ (J[n].1, J[n].2) (s1, t1) = false → joinS J (s1, t1) = J ++ [(s1, t1)]) := HS2.out
          have gj1 := (gs_at hnJ).2
          have hJ12 : n + 1 ≤ k := by omega
          have hn1I : (n : Int) < (n : Int) + 1 := by omega
          clear h0 hGk HS1 HS2
          dsimp only at HC
          generalize J[n].1 = xa at x0 HC HS1' HS2' HGS hxg
          generalize J[n].2 = xb at x1 HC HS1' HS2' HGS hxg gj1
          rw [hJn] at hown3 ⊢
          have ea : ((n + 1 : Nat) : Int) - 1 = n := by omega
          cases hcj : canJ (xa, xb) (s1, t1)
          · rw [hcj] at HC
            have HF : Hid (joinN l (k + 1) = J ++ [(s1, t1)]) := by show _ = _; rw [HX.out, HS2'.out hcj]
            clear hcj HX HS1' HS2'
            go_upto_region 11 with fail
            go_cut [33] from 34 to 43 (fun t wx => t = .bool false ∧ Below W3.heap.size W3 wx)
            case first =>
              go_region_held3 (fun w' => (∀ b o, b < W3.heap.size → w'.cell? ⟨b, o, none⟩ = W3.cell? ⟨b, o, none⟩) ∧ Below W3.heap.size W3 w')
                ((refine kp ?_; (repeat' (first | with_reducible exact Below.refl _ _ | with_reducible exact HB1.out | with_reducible refine Below.drew ?_ | with_reducible refine bel_alloc ?_ ?_ _)); all_goals (first | omega | (simp <;> omega))))
                (first | (go_at_call 78; with_reducible refine (HC.out _).mono ?_; rintro e wA ⟨rfl, hbA⟩; have HB1 : Hid (Below W3.heap.size W3 wA) := (by refine hide (Below.trans ?_ (hbA.mono ?_)); (repeat' (first | with_reducible exact Below.refl _ _ | with_reducible refine Below.drew ?_ | with_reducible refine bel_alloc ?_ ?_ _)); all_goals (first | omega | (simp <;> omega))); have sA := HB1.out.size))
              all_goals (
                go_wp2
                go_meet
                exact ⟨rfl, HB1.out⟩)
            obtain ⟨rfl, hbw⟩ := hcut
            have hown4 := ownsRow_bel hown3 hbw
            have hbr4 : Below q w1 wc := hbr3.trans (hbw.mono hq3)
            have hq4 : q ≤ wc.heap.size := by have := hbw.size; omega
            have hP4 := hP3.bel hbw
            clear hown3 hP3 g0 g1 z4 x2
            have g0 := hP4.cell 0; have g1 := hP4.cell 1; simp only [List.getElem?_cons_zero, List.getElem?_cons_succ] at g0 g1
            have z4 := hP4.lt
            go_wp2_with (at_builtin; refine wpList_append_own _ rfl _ _ 22 rfl q 69 i0 _ 2 16 Try.underlying22 hi iz0 iz1 iz2 rfl (by decide) _ _ _ rfl (hown4.alloc _) ⟨wc.heap.size, 0, none⟩ 1 1 [.int .i64 s1, .int .i64 t1] rfl rfl (World.news_of_block (heap_alloc_new wc _)) (by simp [Value.oneCell']) (by unfold maxLen; omega) (by omega) (by simp; omega) ?_; intro v' w8 hown8 hg8 _)
            have hb8 : Below q w1 w8 := (bel_alloc hbr4 hq4 _).grown hg8 (by simp; omega) (fun j hj => by have := (hown4.lt j hj).1; omega)
            go_roundw
            case rel => exact ⟨k + 1, by omega, by go_num, hb8, by rw [HF.out, gs_append]; simpa [hJn, gs_cons] using hown8⟩
            case measure => simp [intOf]; omega
          · rw [hcj] at HC
            have HF : Hid (joinN l (k + 1) = J.set n (xa, xb + t1)) := by show _ = _; rw [HX.out, HS1'.out hcj]
            have hxt : xb + t1 ≤ 500 := by unfold canJ at hcj; have := of_decide_eq_true hcj; exact this.2
            clear hcj HX HS1' HS2'
            go_upto_region 11 with fail
            go_cut [33] from 34 to 43 (fun t wx => t = .bool true ∧ Below W3.heap.size W3 wx)
            case first =>
              go_region_held3 (fun w' => (∀ b o, b < W3.heap.size → w'.cell? ⟨b, o, none⟩ = W3.cell? ⟨b, o, none⟩) ∧ Below W3.heap.size W3 w')
                ((refine kp ?_; (repeat' (first | with_reducible exact Below.refl _ _ | with_reducible exact HB1.out | with_reducible refine Below.drew ?_ | with_reducible refine bel_alloc ?_ ?_ _)); all_goals (first | omega | (simp <;> omega))))
                (first | (go_at_call 78; with_reducible refine (HC.out _).mono ?_; rintro e wA ⟨rfl, hbA⟩; have HB1 : Hid (Below W3.heap.size W3 wA) := (by refine hide (Below.trans ?_ (hbA.mono ?_)); (repeat' (first | with_reducible exact Below.refl _ _ | with_reducible refine Below.drew ?_ | with_reducible refine bel_alloc ?_ ?_ _)); all_goals (first | omega | (simp <;> omega))); have sA := HB1.out.size))
              all_goals (
                go_wp2
                go_meet
                exact ⟨rfl, HB1.out⟩)
            obtain ⟨rfl, hbw⟩ := hcut
            have hown4 := ownsRow_bel hown3 hbw
            have hbr4 : Below q w1 wc := hbr3.trans (hbw.mono hq3)
            have hq4 : q ≤ wc.heap.size := by have := hbw.size; omega
            have hP4 := hP3.bel hbw
            clear hown3 hP3 g0 g1 z4 x2
            have g0 := hP4.cell 0; have g1 := hP4.cell 1; simp only [List.getElem?_cons_zero, List.getElem?_cons_succ] at g0 g1
            have z4 := hP4.lt
            have y0 := (hown4.cellAt (n * 2 + 1) (by omega)).trans gj1
            have y1 := hown4.frozenAt (n * 2 + 1)
            have y2 : rg < wc.heap.size := by have := hbw.size; omega
            go_upto_region 12 with fail
            refine wp_region_M (fun w' => (∀ b o, b < wc.heap.size → w'.cell? ⟨b, o, none⟩ = wc.cell? ⟨b, o, none⟩) ∧ Below wc.heap.size wc w') 10 (by kernel_rfl) ?_
            have hSd : (∀ b o, b < wc.heap.size → wc.drew.cell? ⟨b, o, none⟩ = wc.cell? ⟨b, o, none⟩) ∧ Below wc.heap.size wc wc.drew := kp (Below.refl _ _).drew
            refine AnyM.take (i := 0) (v := ?_) rfl (by kernel_rfl) (by kernel_rfl) (by kernel_rfl) (by kernel_rfl) (fun _ _ _ h => h) (Or.inl ⟨by rfl, ?_⟩) (by assumption) ?_
            rotate_left 1
            · (intro w hSw; obtain ⟨hk1, hk2⟩ := hSw; go_simp <;> with_reducible rfl)
            simp only [Act.put, List.getElem_toArray, List.getElem_cons_zero, List.setIfInBounds_toArray, List.set_cons_zero, List.set_cons_succ]
            refine AnyM.take (i := 1) (v := ?_) rfl (by kernel_rfl) (by kernel_rfl) (by kernel_rfl) (by kernel_rfl) (fun _ _ _ h => h) (Or.inl ⟨by rfl, ?_⟩) (by assumption) ?_
            rotate_left 1
            · (intro w hSw; obtain ⟨hk1, hk2⟩ := hSw; go_simp <;> with_reducible rfl)
            simp only [Act.put, List.getElem_toArray, List.getElem_cons_zero, List.getElem_cons_succ, List.setIfInBounds_toArray, List.set_cons_zero, List.set_cons_succ]
            refine AnyM.take (i := 2) (v := ?_) rfl (by kernel_rfl) (by kernel_rfl) (by kernel_rfl) (by kernel_rfl) (fun _ _ _ h => h) (Or.inl ⟨by rfl, ?_⟩) (by assumption) ?_
            rotate_left 1
            · (intro w hSw; obtain ⟨hk1, hk2⟩ := hSw; go_simp <;> with_reducible rfl)
            simp only [Act.put, List.getElem_toArray, List.getElem_cons_zero, List.getElem_cons_succ, List.setIfInBounds_toArray, List.set_cons_zero, List.set_cons_succ]
            refine AnyM.take (i := 3) (v := ?_) rfl (by kernel_rfl) (by kernel_rfl) (by kernel_rfl) (by kernel_rfl) (fun _ _ _ h => h) (Or.inl ⟨by rfl, ?_⟩) (by assumption) ?_
            rotate_left 1
            · (intro w hSw; obtain ⟨hk1, hk2⟩ := hSw; go_simp <;> with_reducible rfl)
            simp only [Act.put, List.getElem_toArray, List.getElem_cons_zero, List.getElem_cons_succ, List.setIfInBounds_toArray, List.set_cons_zero, List.set_cons_succ]
            refine AnyM.take (i := 4) (v := ?_) rfl (by kernel_rfl) (by kernel_rfl) (by kernel_rfl) (by kernel_rfl) (fun _ _ _ h => h) (Or.inl ⟨by rfl, ?_⟩) (by assumption) ?_
            rotate_left 1
            · (intro w hSw; obtain ⟨hk1, hk2⟩ := hSw; go_simp <;> with_reducible rfl)
            simp only [Act.put, List.getElem_toArray, List.getElem_cons_zero, List.getElem_cons_succ, List.setIfInBounds_toArray, List.set_cons_zero, List.set_cons_succ]
            refine AnyM.take (i := 5) (v := ?_) rfl (by kernel_rfl) (by kernel_rfl) (by kernel_rfl) (by kernel_rfl) (fun _ _ _ h => h) (Or.inl ⟨by rfl, ?_⟩) (by assumption) ?_
            rotate_left 1
            · (intro w hSw; obtain ⟨hk1, hk2⟩ := hSw; go_simp <;> with_reducible rfl)
            simp only [Act.put, List.getElem_toArray, List.getElem_cons_zero, List.getElem_cons_succ, List.setIfInBounds_toArray, List.set_cons_zero, List.set_cons_succ]
            refine AnyM.take (i := 6) (v := ?_) rfl (by kernel_rfl) (by kernel_rfl) (by kernel_rfl) (by kernel_rfl) (fun _ _ _ h => h) (Or.inl ⟨by rfl, ?_⟩) (by assumption) ?_
            rotate_left 1
            · (intro w hSw; obtain ⟨hk1, hk2⟩ := hSw; go_simp <;> with_reducible rfl)
            simp only [Act.put, List.getElem_toArray, List.getElem_cons_zero, List.getElem_cons_succ, List.setIfInBounds_toArray, List.set_cons_zero, List.set_cons_succ]
            refine AnyM.take (i := 7) (v := ?_) rfl (by kernel_rfl) (by kernel_rfl) (by kernel_rfl) (by kernel_rfl) (fun _ _ _ h => h) (Or.inl ⟨by rfl, ?_⟩) (by assumption) ?_
            rotate_left 1
            · (intro w hSw; obtain ⟨hk1, hk2⟩ := hSw; go_simp <;> with_reducible rfl)
            simp only [Act.put, List.getElem_toArray, List.getElem_cons_zero, List.getElem_cons_succ, List.setIfInBounds_toArray, List.set_cons_zero, List.set_cons_succ]
            refine AnyM.takeAny (i := 8) (v := ?_) rfl (by kernel_rfl) (by kernel_rfl) (by kernel_rfl) (by kernel_rfl) (fun _ _ _ h => h) (Or.inl ⟨by rfl, ?_⟩) (fun h => by first | assumption | exact Bool.noConfusion (h.symm.trans (by kernel_rfl : _ = true))) ?_
            rotate_left 1
            · (intro w _; go_simp <;> with_reducible rfl)
            simp only [Act.put, List.getElem_toArray, List.getElem_cons_zero, List.getElem_cons_succ, List.setIfInBounds_toArray, List.set_cons_zero, List.set_cons_succ]
            refine AnyM.take (i := 9) (v := ?_) rfl (by kernel_rfl) (by kernel_rfl) (by kernel_rfl) (by kernel_rfl) (fun _ _ _ h => h) (Or.inl ⟨by rfl, ?_⟩) (by assumption) ?_
            rotate_left 1
            · (intro w hSw; obtain ⟨hk1, hk2⟩ := hSw; go_simp <;> with_reducible rfl)
            simp only [Act.put, List.getElem_toArray, List.getElem_cons_zero, List.getElem_cons_succ, List.setIfInBounds_toArray, List.set_cons_zero, List.set_cons_succ]
            refine AnyM.next [10] (by kernel_rfl) (by simp) ?_
            refine NextM.cons rfl (fun K hK => ?_) NextM.nil
            go_simp
            refine hK _ _ (fun h => by simp at h) ?_
            clear hK K
            refine AnyM.done (by kernel_rfl) ?_ _
            go_wp2
            go_roundw
            case rel =>
              refine ⟨k + 1, by omega, by go_num, Below.setCell hbr4.drew hrg _, ?_⟩
              rw [HF.out, ← HGS.out, List.length_set, hJn]
              exact (hown4.drew.stored (n * 2 + 1) _).1
            case measure => simp [intOf]; omega
    · obtain rfl : k = l.length := by omega
      have hRr := hR1.below hbr (by omega)
      have hBr := hB1.trans (hbr.mono (by omega))
      have HJ : Hid (joined l = if (joinN l l.length).length = 0 then [l.getD 0 G0] else joinN l l.length) := rfl
      generalize joinN l l.length = N at hown hLk HJ
      have r0 := hRr.frozen 0
      have r1 := hRr.frozen 1
      have r4 := hRr.lt
      have e0 := hRr.cell 0; have e1 := hRr.cell 1; simp only [List.getElem?_cons_zero, List.getElem?_cons_succ] at e0 e1
      have c0 := hXr.cell 0; have c1 := hXr.cell 1; simp only [List.getElem?_cons_zero, List.getElem?_cons_succ] at c0 c1
      have z1 := hXr.lt
      rcases Nat.eq_zero_or_pos N.length with hN | hN
      · have HF : Hid (joined l = [(l[0].1, l[0].2)]) := by show _ = _; rw [HJ.out, if_pos hN, getD_at (show 0 < l.length by omega)]
        have hN0 : N = [] := List.eq_nil_of_length_eq_zero hN
        subst hN0
        clear HJ hN
        obtain ⟨LA, lc, rfl⟩ := ownsRow_slice hown
        obtain ⟨b, off, rfl, hblt, hc0, hc1⟩ := hrr.g_at (show 0 < l.length by omega)
        generalize l[0].1 = s1 at hc0 HF
        generalize l[0].2 = t1 at hc1 HF
        simp only [Nat.zero_mul, Nat.add_zero] at hc0 hc1
        go_upto_region 15 with fail
        go_wp2_with (at_builtin; refine wpList_append_own _ rfl _ _ 22 rfl q 69 i0 _ 2 16 Try.underlying22 hi iz0 iz1 iz2 rfl (by decide) _ _ _ rfl (hown.alloc _) ⟨wr.heap.size, 0, none⟩ 1 1 [.int .i64 s1, .int .i64 t1] rfl rfl (World.news_of_block (heap_alloc_new wr _)) (by simp [Value.oneCell']) (by unfold maxLen; simp) (by simp) (by simp; omega) ?_; intro v' w8 hown8 hg8 _; obtain ⟨g8, c8, rfl⟩ := ownsRow_succ hown8; have hX8 : Blk w8 p 24 [.int .i64 base, .slice (some ⟨b, off, none⟩) l.length c] := (hg8.block p (by simp; omega) (fun e => by have := (hown.lt p e.symm).1; omega)).trans (hXr.bel (alloc_bel _ _)); have n0 := hX8.cell 0; have n1 := hX8.cell 1; simp only [List.getElem?_cons_zero, List.getElem?_cons_succ] at n0 n1; have n3 := hX8.lt; have hR8 : Blk w8 (p + 1) 24 [.int .i64 0, .slice none 0 0] := (hg8.block (p + 1) (by simp; omega) (fun e => by have := (hown.lt (p + 1) e.symm).1; omega)).trans (hRr.bel (alloc_bel _ _)); have o2 := hR8.frozen 0; have o3 := hR8.frozen 1; have o4 := hR8.lt; have o0 := hR8.cell 0; have o1 := hR8.cell 1; simp only [List.getElem?_cons_zero, List.getElem?_cons_succ] at o0 o1)
        have hB8 : Below p w w8 := (bel_alloc hBr (by omega) _).grown hg8 (by simp; omega) (fun j hj => by have := (hown.lt j hj).1; omega)
        have hBE : Below p w ((w8.setCell ⟨p + 1, 0, none⟩ (.int .i64 base)).setCell ⟨p + 1, 1, none⟩ (.slice (some ⟨g8, 0, none⟩) 1 c8)) := (hB8.setCell (by show p ≤ p + 1; omega) _).setCell (by show p ≤ p + 1; omega) _
        have hRE := (hR8.set_ 0 (.int .i64 base)).set_ 1 (.slice (some ⟨g8, 0, none⟩) 1 c8)
        have hrE := Rd.of_own (own_far (own_far hown8 (p := ⟨p + 1, 0, none⟩) (by show p + 1 < q; omega) (.int .i64 base)) (p := ⟨p + 1, 1, none⟩) (by show p + 1 < q; omega) (.slice (some ⟨g8, 0, none⟩) 1 c8))
        generalize (w8.setCell ⟨p + 1, 0, none⟩ (.int .i64 base)).setCell ⟨p + 1, 1, none⟩ (.slice (some ⟨g8, 0, none⟩) 1 c8) = WE at hBE hRE hrE ⊢
        have v0 := hRE.cell 0
        have v1 := hRE.cell 1
        simp only [List.set_cons_zero, List.set_cons_succ, List.getElem?_cons_zero, List.getElem?_cons_succ] at v0 v1
        exact bodyPost_ret (v := .tuple #[.agg #[.int .i64 base, .slice (some ⟨g8, 0, none⟩) 1 c8], .int .i64 0]) (by simp [results, Try.results28, go_sem, v0, v1]; try rfl) rfl ⟨⟨some ⟨g8, 0, none⟩, c8, by rw [HF.out]; rfl, by rw [HF.out]; exact hrE⟩, by rw [hp]; exact hBE⟩
      · have HF : Hid (joined l = N) := by show _ = _; rw [HJ.out, if_neg (by omega)]
        clear HJ
        obtain ⟨rg, rc, rfl, hrg, hrl⟩ := World.ownsRow.form hown hN
        have eN : ((N.length : Int) == 0) = false := by simp; rintro rfl; simp at hN
        go_wp2
        have hBE : Below p w ((wr.setCell ⟨p + 1, 0, none⟩ (.int .i64 base)).setCell ⟨p + 1, 1, none⟩ (.slice (some ⟨rg, 0, none⟩) N.length rc)) := (hBr.setCell (by show p ≤ p + 1; omega) _).setCell (by show p ≤ p + 1; omega) _
        have hRE := (hRr.set_ 0 (.int .i64 base)).set_ 1 (.slice (some ⟨rg, 0, none⟩) N.length rc)
        have hrE := Rd.of_own (own_far (own_far hown (p := ⟨p + 1, 0, none⟩) (by show p + 1 < q; omega) (.int .i64 base)) (p := ⟨p + 1, 1, none⟩) (by show p + 1 < q; omega) (.slice (some ⟨rg, 0, none⟩) N.length rc))
        generalize (wr.setCell ⟨p + 1, 0, none⟩ (.int .i64 base)).setCell ⟨p + 1, 1, none⟩ (.slice (some ⟨rg, 0, none⟩) N.length rc) = WE at hBE hRE hrE ⊢
        have v0 := hRE.cell 0
        have v1 := hRE.cell 1
        simp only [List.set_cons_zero, List.set_cons_succ, List.getElem?_cons_zero, List.getElem?_cons_succ] at v0 v1
        exact bodyPost_ret (v := .tuple #[.agg #[.int .i64 base, .slice (some ⟨rg, 0, none⟩) N.length rc], .int .i64 0]) (by simp [results, Try.results28, go_sem, v0, v1]; try rfl) rfl ⟨⟨some ⟨rg, 0, none⟩, rc, by rw [HF.out], by rw [HF.out]; exact hrE⟩, by rw [hp]; exact hBE⟩
end Go.Proofs.Ytgnhkjfdicdcmaa
