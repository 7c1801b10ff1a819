/- Contracts: squares at heights, the greatest square. -/
import Derived.Test.YtgnhkjfdicdcmaaH1
namespace Go.Proofs.Ytgnhkjfdicdcmaa
open Go.RowKit
set_option maxRecDepth 100000


/-- The error and the answer of PlasmaAt. -/
def plasE (base : Int) (l : List G) (h : Int) : Int := firstE [(proE base l).2, errIf (outB h 0 10000) 2]
def plasR (base : Int) (l : List G) (h : Int) : Int := if plasE base l h = 0 then plasma base l h else 0
set_option maxHeartbeats 1000000 in
theorem plasmaAtAll_c (base h : Int) (A : Option Addr) (c : Nat) (l : List G) (w : World) (hr : Rd w A (gs l)) (hl : l.length ≤ 1000) :
    Calls Try.prog 19 #[.agg #[.int .i64 base, .slice A l.length c], .int .i64 h] w fun r w' => r = .returned (.tuple #[.int .i64 (plasR base l h), .int .i64 (plasE base l h)]) ∧ Below w.heap.size w w' := by
  have HE := hide (fun W h => profileError_c base A c l W h hl)
  have HD : Hid (plasE base l h = firstE [(proE base l).2, errIf (outB h 0 10000) 2]) := rfl
  have HPR : Hid (plasR base l h = if plasE base l h = 0 then plasma base l h else 0) := rfl
  obtain ⟨W0, hW0⟩ : ∃ W0, w.alloc (.cells #[.int .i64 base, .slice A l.length c] 24) = W0 := ⟨_, rfl⟩
  have hX0 : Blk W0 w.heap.size 24 [.int .i64 base, .slice A l.length c] := by rw [← hW0]; exact Blk.new w _ [_, _]
  have hB0 : Below w.heap.size w W0 := by rw [← hW0]; exact alloc_bel w _
  have hr0 := hr.bel hB0
  have HW := hide hW0
  clear hW0 hr
  have c0 := hX0.cell 0; have c1 := hX0.cell 1; simp only [List.getElem?_cons_zero, List.getElem?_cons_succ] at c0 c1
  have z0 := hX0.lt
  by_cases he : plasE base l h = 0
  · have hp : (proE base l).2 = 0 := (firstE_cons_zero.1 (HD.out ▸ he)).1
    have HS := hide (fun W hr => plasmaAt_c base h A c l W hr (proE_zero hp).slabs)
    have HR : Hid (plasR base l h = plasma base l h) := by show _ = _; rw [HPR.out, if_pos he]
    have H0 := hide he
    rw [HD.out] at he
    clear hp HPR
    generalize (proE base l).2 = E at HE he
    have e1 : (firstE [E, errIf (outB h 0 10000) 2] != 0) = false := by simpa using he
    clear he
    go_enter Try.func19, Try.ntmps19
    go_upto_region 1 with fail
    rw [HW.out]
    go_upto_region 2 with (first
      | (go_at_call 76; refine (HE.out _ hr0).mono ?_; rintro e w1 ⟨rfl, hb1⟩)
      | (go_at_call 72; refine (outside_c _ _ _ _).mono ?_; rintro e_ w_ ⟨rfl, rfl⟩)
      | (go_at_call 71; refine (errorIf_c _ _ _).mono ?_; rintro e_ w_ ⟨rfl, rfl⟩)
      | (go_at_call 70; refine (firstError_2 _ _ _).mono ?_; rintro e_ w_ ⟨rfl, rfl⟩))
    obtain ⟨W2, hW2⟩ : ∃ W2, w1.alloc (.cells #[.int .i64 E, .int .i64 (errIf (outB h 0 10000) 2)] 27) = W2 := ⟨_, rfl⟩
    have hb2 : Below W0.heap.size W0 W2 := by rw [← hW2]; exact bel_alloc hb1 hb1.size _
    rw [hW2]
    clear hW2 hb1
    have hX2 := hX0.bel hb2
    have hr2 := hr0.bel hb2
    clear c0 c1
    have c0 := hX2.cell 0; have c1 := hX2.cell 1; simp only [List.getElem?_cons_zero, List.getElem?_cons_succ] at c0 c1
    have z2 := hX2.lt
    go_wp2_with (go_at_call 77; refine (HS.out _ hr2).mono ?_; rintro e w3 ⟨rfl, hb3⟩)
    go_ret2
    exact ⟨by rw [HR.out, H0.out]; rfl, bel_tr hB0 (by omega) (tr hb2 hb3 hb2.size)⟩
  · have HR : Hid (plasR base l h = 0) := by show _ = _; rw [HPR.out, if_neg he]
    rw [HD.out] at he
    clear HPR
    generalize (proE base l).2 = E at HE he HD
    have e1 : (firstE [E, errIf (outB h 0 10000) 2] != 0) = true := by simpa using he
    clear he
    go_enter Try.func19, Try.ntmps19
    go_upto_region 1 with fail
    rw [HW.out]
    go_upto_region 2 with (first
      | (go_at_call 76; refine (HE.out _ hr0).mono ?_; rintro e w1 ⟨rfl, hb1⟩)
      | (go_at_call 72; refine (outside_c _ _ _ _).mono ?_; rintro e_ w_ ⟨rfl, rfl⟩)
      | (go_at_call 71; refine (errorIf_c _ _ _).mono ?_; rintro e_ w_ ⟨rfl, rfl⟩)
      | (go_at_call 70; refine (firstError_2 _ _ _).mono ?_; rintro e_ w_ ⟨rfl, rfl⟩))
    generalize firstE [E, errIf (outB h 0 10000) 2] = F at e1 HD ⊢
    go_wp2
    go_ret2
    exact ⟨by rw [HR.out, HD.out]; rfl, bel_tr hB0 (by omega) (bel_alloc hb1 hb1.size _)⟩

set_option maxHeartbeats 1000000 in
theorem refPlasma_c (base h : Int) (A : Option Addr) (c : Nat) (l : List G) (w : World) (hr : Rd w A (gs l)) (hS : Slabs base l) (_ : 0 ≤ h) (_ : h ≤ 10000) :
    Calls Try.prog 24 #[.agg #[.int .i64 base, .slice A l.length c], .int .i64 h] w fun r w' => r = .returned (.int .i64 (plasma base l h)) ∧ Below w.heap.size w w' := by
  have hn := hS.n1
  have hb0 := hS.b0
  have hb1 := hS.b1
  have HH := hide (fun k h => hgt_bd hS (k := k) h)
  have HG := hide (fun k h => hS.at (k := k) h)
  obtain ⟨W0, hW0⟩ : ∃ W0, w.alloc (.cells #[.int .i64 base, .slice A l.length c] 24) = W0 := ⟨_, rfl⟩
  have hX0 : Blk W0 w.heap.size 24 [.int .i64 base, .slice A l.length c] := by rw [← hW0]; exact Blk.new w _ [_, _]
  have hB0 : Below w.heap.size w W0 := by rw [← hW0]; exact alloc_bel w _
  have hr0 := hr.bel hB0
  have HW := hide hW0
  clear hW0 hr
  have c0 := hX0.cell 0; have c1 := hX0.cell 1; simp only [List.getElem?_cons_zero, List.getElem?_cons_succ] at c0 c1
  have z0 := hX0.lt
  have HR : Hid ((h < base ∧ plasma base l h = 0) ∨ (hgt base l 0 ≤ h ∧ plasma base l h = plG h (hgt base l 0) (l.drop 0))) := by
    show _ ∨ _
    unfold plasma
    split
    · exact .inl ⟨by assumption, rfl⟩
    · exact .inr ⟨by simp only [hgt]; omega, rfl⟩
  go_enter Try.func24, Try.ntmps24
  go_upto_region 1 with fail
  rw [HW.out]
  go_wp2
  go_loop [5, 6] (fun x i => ∃ k : Nat, k ≤ l.length ∧ x = .int .i64 (hgt base l k) ∧ i = .int .i64 k ∧ Hid ((h < base ∧ plasma base l h = 0) ∨ (hgt base l k ≤ h ∧ plasma base l h = plG h (hgt base l k) (l.drop k)))) (fun _ i => l.length - (intOf i).toNat)
  case atStart => exact ⟨0, Nat.zero_le _, rfl, rfl, HR⟩
  case round =>
    obtain ⟨k, hk, rfl, rfl, HP⟩ := hrel
    by_cases hlt : k < l.length
    · obtain ⟨b, off, rfl, hblt, hc0, hc1⟩ := hr0.g_at hlt
      have hst := plG_step (h := h) (base := base) hlt
      have h1 := HH.out k hk
      have hX : hgt base l (k + 1) = hgt base l k + (l.getD k G0).2 := rfl
      have hg := HG.out k hlt
      rw [getD_at hlt] at hX hg
      generalize l[k].1 = sq at hc0 hg hst
      generalize l[k].2 = t at hc1 hg hX
      have hP := HP.out
      obtain ⟨H', hH'⟩ : ∃ H', hgt base l (k + 1) = H' := ⟨_, rfl⟩
      have HK := hide hH'
      rw [hH'] at hX hst
      clear hH' HP
      generalize hgt base l k = H at hX h1 hst hP ⊢
      subst hX
      have HWi := hide (fun W => within_c h H (H + t - 1) W)
      by_cases hh : H ≤ h ∧ h < H + t
      · have e2 : outB h H (H + t - 1) = false := outB_false.2 (by omega)
        have HF : Hid (plasma base l h = sq) := by
          show _ = _
          rcases hP with ⟨p1, p2⟩ | ⟨p1, p2⟩
          · omega
          · rw [p2, hst, if_pos hh.2]
        rw [e2] at HWi
        clear hst hP hh
        go_wp2_with (go_at_call 23; with_reducible refine (HWi.out _).mono ?_; rintro e_ w_ ⟨rfl, rfl⟩)
        go_ret
        exact ⟨by rw [HF.out]; rfl, hB0⟩
      · have e2 : outB h H (H + t - 1) = true := by
          cases e : outB h H (H + t - 1)
          · have := outB_false.1 e
            exact absurd ⟨this.1, by omega⟩ hh
          · rfl
        have HF : Hid ((h < base ∧ plasma base l h = 0) ∨ (H + t ≤ h ∧ plasma base l h = plG h (H + t) (l.drop (k + 1)))) := by
          show _ ∨ _
          rcases hP with ⟨p1, p2⟩ | ⟨p1, p2⟩
          · exact .inl ⟨p1, p2⟩
          · have : ¬ h < H + t := fun q => hh ⟨p1, q⟩
            exact .inr ⟨by omega, by rw [p2, hst, if_neg this]⟩
        rw [e2] at HWi
        clear hst hP hh
        go_wp2_with (go_at_call 23; with_reducible refine (HWi.out _).mono ?_; rintro e_ w_ ⟨rfl, rfl⟩)
        go_round
        case rel => exact ⟨k + 1, by omega, by rw [HK.out], by go_num, by rw [HK.out]; exact HF⟩
        case measure => simp [intOf]; omega
    · have HF : Hid (plasma base l h = 0) := by
        show _ = _
        rcases HP.out with ⟨_, p2⟩ | ⟨_, p2⟩
        · exact p2
        · rw [p2, plG_end _ _ _ (by omega)]
      clear HP HR
      go_wp2
      go_ret
      exact ⟨by rw [HF.out]; rfl, hB0⟩

/-- The answer of CriticalOf. -/
def critI (l : List G) : Int := (l.getD (bestI l l.length) G0).1
set_option maxHeartbeats 1000000 in
theorem refCritical_c (base : Int) (A : Option Addr) (c : Nat) (l : List G) (w : World) (hr : Rd w A (gs l)) (hP : Pro base l) :
    Calls Try.prog 25 #[.agg #[.int .i64 base, .slice A l.length c]] w fun r w' => r = .returned (.tuple #[.int .i64 (critI l), .int .i64 (bestI l l.length)]) ∧ Below w.heap.size w w' := by
  have hn := hP.slabs.n1
  have hn0 := hP.n0
  have HC : Hid (critI l = (l.getD (bestI l l.length) G0).1) := rfl
  obtain ⟨W0, hW0⟩ : ∃ W0, w.alloc (.cells #[.int .i64 base, .slice A l.length c] 24) = W0 := ⟨_, rfl⟩
  have hX0 : Blk W0 w.heap.size 24 [.int .i64 base, .slice A l.length c] := by rw [← hW0]; exact Blk.new w _ [_, _]
  have hB0 : Below w.heap.size w W0 := by rw [← hW0]; exact alloc_bel w _
  have hr0 := hr.bel hB0
  have HW := hide hW0
  clear hW0 hr
  have c0 := hX0.cell 0; have c1 := hX0.cell 1; simp only [List.getElem?_cons_zero, List.getElem?_cons_succ] at c0 c1
  have z0 := hX0.lt
  go_enter Try.func25, Try.ntmps25
  go_upto_region 1 with fail
  rw [HW.out]
  go_wp2
  go_loopw [4, 5] (fun x i wr => ∃ k : Nat, k ≤ l.length ∧ x = .int .i64 (bestI l k) ∧ i = .int .i64 k ∧ Below W0.heap.size W0 wr) (fun _ i _ => l.length - (intOf i).toNat)
  case atStart => exact ⟨0, Nat.zero_le _, rfl, rfl, Below.refl _ _⟩
  case round =>
    obtain ⟨k, hk, rfl, rfl, hb⟩ := hrel
    have hXr := hX0.bel hb
    have zr := hXr.lt
    clear c0 c1
    have c0 := hXr.cell 0; have c1 := hXr.cell 1; simp only [List.getElem?_cons_zero, List.getElem?_cons_succ] at c0 c1
    by_cases hlt : k < l.length
    · have hbl : bestI l k < l.length := by have := bestI_le l k; omega
      obtain ⟨b, off, rfl, hblt, hc0, hc1⟩ := (hr0.bel hb).g_at hlt
      obtain ⟨b2, off2, e2, hblt2, hd0, hd1⟩ := (hr0.bel hb).g_at hbl
      cases e2
      have HX : Hid (bestI l (k + 1) = if (l.getD (bestI l k) G0).1 < (l.getD k G0).1 then k else bestI l k) := rfl
      rw [getD_at hlt, getD_at hbl] at HX
      clear hc1 hd1
      generalize l[k].1 = s1 at hc0 HX
      generalize l[bestI l k].1 = s2 at hd0 HX
      generalize bestI l k = B at hbl hd0 HX ⊢
      by_cases hh : s2 < s1
      · have e1 : decide (s2 < s1) = true := decide_eq_true hh
        have HF : Hid (bestI l (k + 1) = k) := by show _ = _; rw [HX.out, if_pos hh]
        clear hh HX
        go_wp2
        go_quiet (fail)
        go_wp2
        go_roundw
        case rel => exact ⟨k + 1, by omega, by rw [HF.out], by go_num, below_drewN hb _⟩
        case measure => simp [intOf]; omega
      · have e1 : decide (s2 < s1) = false := decide_eq_false hh
        have HF : Hid (bestI l (k + 1) = B) := by show _ = _; rw [HX.out, if_neg hh]
        clear hh HX
        go_wp2
        go_quiet (fail)
        go_wp2
        go_roundw
        case rel => exact ⟨k + 1, by omega, by rw [HF.out], by go_num, below_drewN hb _⟩
        case measure => simp [intOf]; omega
    · obtain rfl : k = l.length := by omega
      have hbl : bestI l l.length < l.length := bestI_lt l hn0
      obtain ⟨b, off, rfl, hblt, hc0, hc1⟩ := (hr0.bel hb).g_at hbl
      rw [getD_at hbl] at HC
      clear hc1
      generalize l[bestI l l.length].1 = s1 at hc0 HC
      obtain ⟨B, hB⟩ : ∃ B, bestI l l.length = B := ⟨_, rfl⟩
      have HB := hide hB
      rw [hB] at hbl hc0 ⊢
      clear hB
      go_wp2
      go_ret2
      exact ⟨by rw [HC.out, HB.out]; rfl, bel_tr hB0 (by omega) hb⟩
end Go.Proofs.Ytgnhkjfdicdcmaa
