/- Contracts: copies of lists, the reference's chirps, powers of i, the wave of a code as the reference makes it. -/
import Derived.Test.YtmedjedmeggbpaaDoorR1
import Derived.Test.YtmedjedmeggbpaaDoorW25
import Derived.Test.YtmedjedmeggbpaaDoorW28
namespace Go.Proofs.YtmedjedmeggbpaaDoor
open Go.RowKit
set_option maxRecDepth 100000

theorem copyInts_c (l : List Int) (A : Option Addr) (c : Nat) (w : World) (hr : Rd w A (ints l)) (hl : l.length ≤ 100000) :
    Calls Tryd.prog 18 #[.slice A l.length c] w fun r w' => (∃ A' c', r = .returned (.slice A' l.length c') ∧ RdT w' 3 A' (ints l)) ∧ Below w.heap.size w w' := by
  obtain ⟨i0, hi, iz0, iz1, iz2⟩ := info_parts Tryd.info3
  go_enter Tryd.func18, Tryd.ntmps18
  go_wp2_with (first | (at_builtin; refine wpList_append_rd _ rfl _ _ 22 rfl w.heap.size 3 i0 (.int .i64 0) 1 8 Tryd.underlying22 hi iz0 iz1 iz2 rfl (by decide) (.slice (some ⟨w.heap.size, 0, none⟩) 0 0) 0 [] rfl (World.ownsRow_made w #[] 0 (Nat.le_refl _) (by unfold maxLen; omega) rfl) A l.length c (ints l) rfl (by simp) (hr.alloc _) (ints_one l) (by unfold maxLen; omega) (by omega) (by simp) ?_; intro v' w1 hown1 hg1))
  obtain ⟨A', c', rfl⟩ := ownsRow_slice hown1
  have hb : Below w.heap.size w w1 := ((Below.refl _ _).alloc (Nat.le_refl _) (.cells #[] 3)).grown hg1 (by simp) (by simp [Value.ownBlock])
  go_ret
  exact ⟨⟨A', c', by rw [Nat.zero_add]; rfl, by simpa using RdT.of_own hown1⟩, hb⟩

theorem copyGausses_c (l : List (Int × Int)) (A : Option Addr) (c : Nat) (w : World) (hr : Rd w A (gs l)) (hl : l.length ≤ 100000) :
    Calls Tryd.prog 61 #[.slice A l.length c] w fun r w' => (∃ A' c', r = .returned (.slice A' l.length c') ∧ RdT w' 76 A' (gs l)) ∧ Below w.heap.size w w' := by
  obtain ⟨i0, hi, iz0, iz1, iz2⟩ := info_parts Tryd.info76
  go_enter Tryd.func61, Tryd.ntmps61
  go_wp2_with (first | (at_builtin; refine wpList_append_rd _ rfl _ _ 30 rfl w.heap.size 76 i0 _ 2 16 Tryd.underlying30 hi iz0 iz1 iz2 rfl (by decide) (.slice (some ⟨w.heap.size, 0, none⟩) 0 0) 0 [] rfl (World.ownsRow_made w #[] 0 (Nat.le_refl _) (by unfold maxLen; omega) rfl) A l.length c (gs l) rfl (by simp) (hr.alloc _) (gs_one l) (by unfold maxLen; omega) (by omega) (by simp) ?_; intro v' w1 hown1 hg1))
  obtain ⟨A', c', rfl⟩ := ownsRow_slice hown1
  have hb : Below w.heap.size w w1 := ((Below.refl _ _).alloc (Nat.le_refl _) (.cells #[] 76)).grown hg1 (by simp) (by simp [Value.ownBlock])
  go_ret
  exact ⟨⟨A', c', by rw [Nat.zero_add]; rfl, by simpa using RdT.of_own hown1⟩, hb⟩

theorem refChirpErr_c (s n d : Int) (w : World) : Calls Tryd.prog 47 #[.agg #[.int .i64 s, .int .i64 n, .int .i64 d]] w fun r w' => r = .returned (.int .i64 (chirpE s n d)) ∧ Below w.heap.size w w' := by
  have H : Hid (chirpE s n d = errIf (outB s 0 100000 || (outB n 0 1000 || outB d 1 1000)) 2) := by
    show chirpE s n d = _
    unfold chirpE errIf
    simp only [Bool.or_eq_true, outB_true]
    congr 1
    simp only [eq_iff_iff]
    omega
  generalize h1 : outB s 0 100000 = b1 at H
  generalize h2 : outB n 0 1000 = b2 at H
  generalize h3 : outB d 1 1000 = b3 at H
  cases b1 <;> cases b2 <;> cases b3 <;> (
    go_enter Tryd.func47, Tryd.ntmps47
    go_wp2_with (first | (go_at_call 26; refine (within_c _ _ _ _).mono ?_; rintro e w' ⟨rfl, rfl⟩))
    go_ret
    exact ⟨by rw [H.out]; rfl, (Below.refl _ _).alloc (Nat.le_refl _) _⟩)

theorem refChirpAt_c (s n d t : Int) (w : World) (h1 : 0 ≤ s) (h2 : s ≤ 100000) (h3 : 0 ≤ n) (h4 : n ≤ 1000) (h5 : 1 ≤ d) (h6 : d ≤ 1000) (h7 : 0 ≤ t) (h8 : t ≤ 1000000) :
    Calls Tryd.prog 49 #[.agg #[.int .i64 s, .int .i64 n, .int .i64 d], .int .i64 t] w fun r w' => r = .returned (.int .i64 (freq s n d t)) ∧ Below w.heap.size w w' := by
  have hp : t * n ≤ 1000000 * 1000 := Int.mul_le_mul h8 h4 h3 (by omega)
  have hp0 : 0 ≤ t * n := Int.mul_nonneg h7 h3
  have hq0 : 0 ≤ t * n / d := Int.ediv_nonneg hp0 (by omega)
  have hq : t * n / d ≤ t * n := Int.ediv_le_self _ hp0
  go_enter Tryd.func49, Tryd.ntmps49
  have e1 : (d == 0) = false := by simp; omega
  go_wp2
  go_quiet (fail)
  go_wp2
  go_ret
  exact ⟨rfl, below_drewN ((Below.refl _ _).alloc (Nat.le_refl _) _) _⟩

theorem mod_c (n by_ : Int) (w : World) (h1 : 1 ≤ by_) (h2 : by_ ≤ 1000000000) (h3 : -4611686018427387904 ≤ n) (h4 : n ≤ 4611686018427387904) :
    Calls Tryd.prog 109 #[.int .i64 n, .int .i64 by_] w fun r w' => r = .returned (.int .i64 (n % by_)) ∧ w = w' := by
  have e1 : (by_ == 0) = false := by simp; omega
  have e2 : (by_ == -1) = false := by simp; omega
  by_cases hn : 0 ≤ n
  · have hm0 : 0 ≤ n % by_ := Int.emod_nonneg _ (by omega)
    have hm1 : n % by_ < by_ := Int.emod_lt_of_pos _ (by omega)
    go_enter Tryd.func109, Tryd.ntmps109
    go_wp2
    go_ret
    exact ⟨rfl, rfl⟩
  · have hlo : -by_ < n.tmod by_ := Int.lt_tmod_of_pos n (by omega)
    have hhi : n.tmod by_ ≤ 0 := by
      have := Int.tmod_nonneg by_ (show 0 ≤ -n by omega)
      rw [Int.neg_tmod] at this; omega
    by_cases hz : n.tmod by_ = 0
    · have H : Hid (n % by_ = 0) := by
        show n % by_ = 0
        exact Int.emod_eq_zero_of_dvd (Int.dvd_of_tmod_eq_zero hz)
      go_enter Tryd.func109, Tryd.ntmps109
      go_wp2
      go_ret
      exact ⟨by rw [H.out]; rfl, rfl⟩
    · have H : Hid (n % by_ = n.tmod by_ + by_) := by
        show n % by_ = _
        have h5 := Int.emod_nonneg n (show by_ ≠ 0 by omega)
        have h6 := Int.emod_lt_of_pos n (show 0 < by_ by omega)
        have h7 := Int.mul_tdiv_add_tmod n by_
        have h8 := Int.mul_ediv_add_emod n by_
        have h9 : by_ * (n / by_) - by_ * (n.tdiv by_) = n.tmod by_ - n % by_ := by omega
        rw [← Int.mul_sub] at h9
        have h10 : n / by_ - n.tdiv by_ = -1 := by
          generalize n / by_ - n.tdiv by_ = q at h9
          rcases Int.lt_trichotomy q (-1) with h | h | h
          · have := Int.mul_le_mul_of_nonneg_left (show q ≤ -2 by omega) (show 0 ≤ by_ by omega); omega
          · exact h
          · have := Int.mul_le_mul_of_nonneg_left (show 0 ≤ q by omega) (show 0 ≤ by_ by omega); omega
        rw [h10] at h9
        omega
      have hneg : n.tmod by_ < 0 := by omega
      clear hz
      go_enter Tryd.func109, Tryd.ntmps109
      go_wp2
      go_ret
      exact ⟨by rw [H.out]; rfl, rfl⟩

theorem refTurn_c (n : Int) (w : World) (h3 : -4611686018427387904 ≤ n) (h4 : n ≤ 4611686018427387904) :
    Calls Tryd.prog 53 #[.int .i64 n] w fun r w' => r = .returned (.agg #[.int .i64 (turnG (n % 4).toNat).1, .int .i64 (turnG (n % 4).toNat).2]) ∧ Below w.heap.size w w' := by
  have HM : ∀ W, Calls Tryd.prog 109 #[.int .i64 n, .int .i64 4] W fun r w' => r = .returned (.int .i64 (n % 4)) ∧ W = w' := fun W => mod_c n 4 W (by omega) (by omega) h3 h4
  have hc : n % 4 = 0 ∨ n % 4 = 1 ∨ n % 4 = 2 ∨ n % 4 = 3 := by omega
  rcases hc with h | h | h | h <;> (
    rw [h] at HM ⊢
    have HMH := hide HM
    clear HM h h3 h4
    go_enter Tryd.func53, Tryd.ntmps53
    go_wp2_with (first | (go_at_call 109; refine (HMH.out _).mono ?_; rintro e w_ ⟨rfl, rfl⟩))
    refine bodyPost_ret (by simp [results, Tryd.results53, go_sem]; try rfl) rfl ?_
    refine ⟨rfl, ?_⟩
    exact ((Below.refl _ _).alloc (Nat.le_refl _) _).alloc (by simp) _)

/-- The sum of all frequencies below a tick. -/
def sumN (s n d : Int) : Nat → Int
  | 0 => 0
  | t + 1 => sumN s n d t + freq s n d t
theorem sumN_phase (s n d : Int) (t : Nat) : (sumN s n d t % 4).toNat = phaseN s n d t := by
  induction t with
  | zero => rfl
  | succ t ih => simp only [sumN, phaseN]; omega
theorem sumN_bd {s n d : Int} (h : chirpE s n d = 0) (t : Nat) (ht : t ≤ 1000000) : 0 ≤ sumN s n d t ∧ sumN s n d t ≤ 1000100000 * (t : Int) := by
  induction t with
  | zero => simp [sumN]
  | succ t ih =>
    obtain ⟨a, b⟩ := ih (by omega)
    obtain ⟨c, e⟩ := freq_bd (t := t) h (by omega) (by omega)
    simp only [sumN]
    omega

theorem refRisesOf_c (s n d : Int) (count : Nat) (w : World) (hE : chirpE s n d = 0) (hc : count ≤ 1000) :
    Calls Tryd.prog 50 #[.agg #[.int .i64 s, .int .i64 n, .int .i64 d], .int .i64 count] w fun r w' =>
      (∃ A c, r = .returned (.slice A (risesL s n d count).length c) ∧ RdT w' 3 A (ints (risesL s n d count))) ∧ Below w.heap.size w w' := by
  obtain ⟨i0, hi, iz0, iz1, iz2⟩ := info_parts Tryd.info3
  obtain ⟨q1, q2, q3, q4, q5, q6⟩ := chirpE_zero hE
  have HC := hide hE
  clear hE
  have hXV : Blk (w.alloc (.cells #[.int .i64 s, .int .i64 n, .int .i64 d] 64)) w.heap.size 64 [.int .i64 s, .int .i64 n, .int .i64 d] := Blk.new w _ [_, _, _]
  have hwV : Below w.heap.size w (w.alloc (.cells #[.int .i64 s, .int .i64 n, .int .i64 d] 64)) := (Below.refl _ _).alloc (Nat.le_refl _) _
  go_enter Tryd.func50, Tryd.ntmps50
  go_wp2
  obtain ⟨V, hV⟩ : ∃ V, w.alloc (.cells #[.int .i64 s, .int .i64 n, .int .i64 d] 64) = V := ⟨_, rfl⟩
  rw [hV] at hXV hwV ⊢
  clear hV
  have hzV := hXV.lt
  go_loopw [5, 6] (fun v i wr => ∃ k : Nat, 1 ≤ k ∧ k ≤ max count 1 ∧ i = .int .i64 k ∧ Below V.heap.size V wr ∧ wr.ownsRow V.heap.size 3 1 v (risesL s n d k).length (ints (risesL s n d k))) (fun _ i _ => count - (intOf i).toNat)
  case atStart => exact ⟨1, Nat.le_refl _, by omega, rfl, Below.refl _ _, by rw [risesL_one]; exact World.ownsRow_nil _ _ _ _⟩
  case round =>
    obtain ⟨k, hk1, hk2, rfl, hbr, hown⟩ := hrel
    by_cases hlt : k < count
    · have hXr := hXV.below hbr hzV
      have c0 := hXr.cell 0
      have c1 := hXr.cell 1
      have c2 := hXr.cell 2
      simp only [List.getElem?_cons_zero, List.getElem?_cons_succ] at c0 c1 c2
      have HS := hide (show wr.cell? ⟨w.heap.size, 0, none⟩ = some (.int .i64 s) ∧ wr.cell? ⟨w.heap.size, 1, none⟩ = some (.int .i64 n) ∧ wr.cell? ⟨w.heap.size, 2, none⟩ = some (.int .i64 d) ∧ Below wr.heap.size wr wr from ⟨c0, c1, c2, Below.refl _ _⟩)
      clear c0 c1 c2
      have hw1 : IntKind.i64.wrap ((k : Int) - 1) = (k : Int) - 1 := by simp (disch := omega) only [IntWalk.i64_in]
      have hF : Hid (risesL s n d (k + 1) = if 1 ≤ k ∧ freq s n d ((k : Int) - 1) < freq s n d k then risesL s n d k ++ [(k : Int)] else risesL s n d k) := rfl
      have hle := risesL_le s n d k
      by_cases hgt : freq s n d ((k : Int) - 1) < freq s n d k
      · have hF2 : Hid (risesL s n d (k + 1) = risesL s n d k ++ [(k : Int)]) := by have := hF.out; rw [if_pos ⟨hk1, hgt⟩] at this; exact this
        generalize hfk : freq s n d (k : Int) = fk at hgt
        generalize hfk1 : freq s n d ((k : Int) - 1) = fk1 at hgt
        have HFK := hide hfk
        have HFK1 := hide hfk1
        clear hfk hfk1 hF
        generalize risesL s n d k = L at hown hle hF2
        go_upto_region 5 with fail
        go_region_held3 (fun w' => w'.cell? ⟨w.heap.size, 0, none⟩ = some (.int .i64 s) ∧ w'.cell? ⟨w.heap.size, 1, none⟩ = some (.int .i64 n) ∧ w'.cell? ⟨w.heap.size, 2, none⟩ = some (.int .i64 d) ∧ Below wr.heap.size wr w')
          (first | with_reducible exact hd3_drew HS.out | with_reducible exact H3.out | with_reducible exact H4.out)
          (first
            | (go_at_call 49; have _g := H3; refine (refChirpAt_c s n d _ _ q1 q2 q3 q4 q5 q6 (by omega) (by omega)).mono ?_; rintro e w4 ⟨rfl, hb4⟩; have H4 := hide (hd3_bel H3.out hb4 H3.out.2.2.2.size))
            | (go_at_call 49; refine (refChirpAt_c s n d _ _ q1 q2 q3 q4 q5 q6 (by omega) (by omega)).mono ?_; rintro e w3 ⟨rfl, hb3⟩; have H3 := hide (hd3_bel (hd3_drew HS.out) hb3 (by simp))))
        rw [HFK.out, HFK1.out]
        have hown4 := ownsRow_bel hown H4.out.2.2.2
        have hb4' : Below V.heap.size V w4 := tr hbr H4.out.2.2.2 hbr.size
        clear H3 hb3 hb4
        go_wp2_with (first | (at_builtin; refine wpList_append_own _ rfl _ _ 22 rfl V.heap.size 3 i0 (.int .i64 0) 1 8 Tryd.underlying22 hi iz0 iz1 iz2 rfl (by decide) _ _ _ rfl (hown4.alloc _) ⟨w4.heap.size, 0, none⟩ 1 1 [.int .i64 (k : Int)] rfl rfl (cell_one_new _ _ _) (by simp [Value.oneCell']) (by unfold maxLen; omega) (by omega) (by have := hb4'.size; simp; omega) ?_; intro v' w5 hown5 hg5 _))
        have hb5 : Below V.heap.size V w5 := (hb4'.alloc hb4'.size _).grown hg5 (by have := hb4'.size; simp; omega) (fun j hj => (hown4.lt j hj).1)
        go_roundw
        case rel => exact ⟨k + 1, by omega, by omega, by go_num, hb5, by rw [hF2.out, List.length_append, ints_append]; exact hown5⟩
        case measure => simp [intOf]; omega
      · have hF2 : Hid (risesL s n d (k + 1) = risesL s n d k) := by have := hF.out; rw [if_neg (fun h => hgt h.2)] at this; exact this
        have hng : freq s n d k ≤ freq s n d ((k : Int) - 1) := by omega
        clear hgt
        generalize hfk : freq s n d (k : Int) = fk at hng
        generalize hfk1 : freq s n d ((k : Int) - 1) = fk1 at hng
        have HFK := hide hfk
        have HFK1 := hide hfk1
        clear hfk hfk1 hF
        generalize risesL s n d k = L at hown hle hF2
        go_upto_region 5 with fail
        go_region_held3 (fun w' => w'.cell? ⟨w.heap.size, 0, none⟩ = some (.int .i64 s) ∧ w'.cell? ⟨w.heap.size, 1, none⟩ = some (.int .i64 n) ∧ w'.cell? ⟨w.heap.size, 2, none⟩ = some (.int .i64 d) ∧ Below wr.heap.size wr w')
          (first | with_reducible exact hd3_drew HS.out | with_reducible exact H3.out | with_reducible exact H4.out)
          (first
            | (go_at_call 49; have _g := H3; refine (refChirpAt_c s n d _ _ q1 q2 q3 q4 q5 q6 (by omega) (by omega)).mono ?_; rintro e w4 ⟨rfl, hb4⟩; have H4 := hide (hd3_bel H3.out hb4 H3.out.2.2.2.size))
            | (go_at_call 49; refine (refChirpAt_c s n d _ _ q1 q2 q3 q4 q5 q6 (by omega) (by omega)).mono ?_; rintro e w3 ⟨rfl, hb3⟩; have H3 := hide (hd3_bel (hd3_drew HS.out) hb3 (by simp))))
        rw [HFK.out, HFK1.out]
        have hown4 := ownsRow_bel hown H4.out.2.2.2
        have hb4' : Below V.heap.size V w4 := tr hbr H4.out.2.2.2 hbr.size
        clear H3 hb3 hb4
        go_wp2
        go_roundw
        case rel => exact ⟨k + 1, by omega, by omega, by go_num, hb4', by rw [hF2.out]; exact hown4⟩
        case measure => simp [intOf]; omega
    · have hcap := hide (risesL_cap s n d count k hk1 (by omega) hk2)
      obtain ⟨A, c, rfl⟩ := ownsRow_slice hown
      go_wp2
      go_ret
      refine ⟨⟨A, c, by rw [← hcap.out]; rfl, ?_⟩, tr hwV hbr hwV.size⟩
      rw [← hcap.out]
      exact RdT.of_own hown

theorem waveL_length (s n d : Int) (k : Nat) : (waveL s n d k).length = k := by simp [waveL]
theorem waveL_succ (s n d : Int) (k : Nat) : waveL s n d (k + 1) = waveL s n d k ++ [turnG (phaseN s n d k)] := by simp [waveL, List.range_succ]

theorem refChirpWave_c (s n d : Int) (count : Nat) (w : World) (hE : chirpE s n d = 0) (hc : count ≤ 1000) :
    Calls Tryd.prog 51 #[.agg #[.int .i64 s, .int .i64 n, .int .i64 d], .int .i64 count] w fun r w' =>
      (∃ A c, r = .returned (.slice A (waveL s n d count).length c) ∧ RdT w' 76 A (gs (waveL s n d count))) ∧ Below w.heap.size w w' := by
  obtain ⟨i0, hi, iz0, iz1, iz2⟩ := info_parts Tryd.info76
  obtain ⟨q1, q2, q3, q4, q5, q6⟩ := chirpE_zero hE
  have HC := hide hE
  clear hE
  have hXV : Blk (w.alloc (.cells #[.int .i64 s, .int .i64 n, .int .i64 d] 64)) w.heap.size 64 [.int .i64 s, .int .i64 n, .int .i64 d] := Blk.new w _ [_, _, _]
  have hwV : Below w.heap.size w (w.alloc (.cells #[.int .i64 s, .int .i64 n, .int .i64 d] 64)) := (Below.refl _ _).alloc (Nat.le_refl _) _
  go_enter Tryd.func51, Tryd.ntmps51
  go_wp2
  obtain ⟨V, hV⟩ : ∃ V, w.alloc (.cells #[.int .i64 s, .int .i64 n, .int .i64 d] 64) = V := ⟨_, rfl⟩
  rw [hV] at hXV hwV ⊢
  clear hV
  have hzV := hXV.lt
  go_loopw [5, 6, 7] (fun ph v i wr => ∃ k : Nat, k ≤ count ∧ i = .int .i64 k ∧ ph = .int .i64 (sumN s n d k) ∧ Below V.heap.size V wr ∧ wr.ownsRow V.heap.size 76 2 v k (gs (waveL s n d k))) (fun _ _ i _ => count - (intOf i).toNat)
  case atStart => exact ⟨0, Nat.zero_le _, rfl, rfl, Below.refl _ _, World.ownsRow_nil _ _ _ _⟩
  case round =>
    obtain ⟨k, hk, rfl, rfl, hbr, hown⟩ := hrel
    by_cases hlt : k < count
    · have hXr := hXV.below hbr hzV
      obtain ⟨b1, b2⟩ := sumN_bd HC.out k (by omega)
      obtain ⟨f1, f2⟩ := freq_bd (t := k) HC.out (by omega) (by omega)
      have HSUM : Hid (sumN s n d (k + 1) = sumN s n d k + freq s n d k) := rfl
      have HW : Hid (waveL s n d (k + 1) = waveL s n d k ++ [turnG (sumN s n d k % 4).toNat]) := by rw [sumN_phase]; exact waveL_succ s n d k
      generalize sumN s n d k = ph at b1 b2 HSUM HW
      have HT := hide (fun W => refTurn_c ph W (by omega) (by omega))
      generalize turnG (ph % 4).toNat = tg at HW HT
      generalize waveL s n d k = L at hown HW
      go_wp2_with (first
        | (go_at_call 53; refine (HT.out _).mono ?_; rintro e w3 ⟨rfl, hb3⟩; have hown3 := ownsRow_bel hown hb3; have hX3 := hXr.bel hb3)
        | (at_builtin; refine wpList_append_own _ rfl _ _ 30 rfl V.heap.size 76 i0 _ 2 16 Tryd.underlying30 hi iz0 iz1 iz2 rfl (by decide) _ _ _ rfl (hown3.alloc _) ⟨w3.heap.size, 0, none⟩ 1 1 [.int .i64 tg.1, .int .i64 tg.2] rfl rfl (World.news_of_block (heap_alloc_new w3 _)) (by simp [Value.oneCell']) (by unfold maxLen; omega) (by omega) (by have := hb3.size; have := hbr.size; simp; omega) ?_; intro v' w5 hown5 hg5 _; have hb5 : Below V.heap.size V w5 := ((tr hbr hb3 hbr.size).alloc (by have := hb3.size; have := hbr.size; omega) _).grown hg5 (by have := hb3.size; have := hbr.size; simp; omega) (fun j hj => (hown3.lt j hj).1); have hX5 := hXV.below hb5 hzV; have c0 := hX5.cell 0; have c1 := hX5.cell 1; have c2 := hX5.cell 2; simp only [List.getElem?_cons_zero, List.getElem?_cons_succ] at c0 c1 c2)
        | (go_at_call 49; refine (refChirpAt_c s n d _ _ q1 q2 q3 q4 q5 q6 (by omega) (by omega)).mono ?_; rintro e w6 ⟨rfl, hb6⟩))
      have hown6 := ownsRow_bel hown5 hb6
      have hb6' : Below V.heap.size V w6 := tr hb5 hb6 hb5.size
      go_roundw
      case rel => exact ⟨k + 1, by omega, by go_num, by rw [HSUM.out], hb6', by rw [HW.out, gs_append]; exact hown6⟩
      case measure => simp [intOf]; omega
    · obtain rfl : k = count := by omega
      obtain ⟨A, c, rfl⟩ := ownsRow_slice hown
      go_wp2
      go_ret
      exact ⟨⟨A, c, by rw [waveL_length]; rfl, RdT.of_own hown⟩, tr hwV hbr hwV.size⟩
end Go.Proofs.YtmedjedmeggbpaaDoor
