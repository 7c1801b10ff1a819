/- Contracts: the reference of clocks. -/
import Derived.Test.YtmdmkmfemhkfgaaE14
set_option linter.unusedSimpArgs false
set_option linter.unusedVariables false
set_option linter.unusedSimpArgs false
set_option linter.unusedVariables false
namespace Go.Proofs.Ytmdmkmfemhkfgaa
open Go.RowKit
set_option maxRecDepth 100000

theorem up_le {n d m : Int} (hd : 0 < d) : upD n d ≤ m ↔ n ≤ m * d := by
  unfold upD
  constructor
  · intro h
    have := (Int.ediv_lt_iff_lt_mul hd).1 (show (n + d - 1) / d < m + 1 by omega)
    rw [Int.add_mul] at this
    omega
  · intro h
    have := (Int.ediv_lt_iff_lt_mul hd).2 (show n + d - 1 < (m + 1) * d by rw [Int.add_mul]; omega)
    omega
theorem up_neg {n d : Int} (hd : 0 < d) : -((-n) / d) = upD n d := by
  have h1 : ∀ m, upD n d ≤ m ↔ -((-n) / d) ≤ m := fun m => by
    rw [up_le hd]
    have := Int.le_ediv_iff_mul_le (a := -m) (b := -n) hd
    rw [Int.neg_mul] at this
    omega
  have h2 := (h1 (upD n d)).1 (Int.le_refl _)
  have h3 := (h1 (-((-n) / d))).2 (Int.le_refl _)
  omega
theorem tdiv_floor {n d : Int} (hd : 0 < d) : n / d = if n.tmod d < 0 then n.tdiv d - 1 else n.tdiv d := by
  have h1 := Int.mul_tdiv_add_tmod n d
  have h2 := Int.tmod_lt_of_pos n hd
  have h3 : -d < n.tmod d := by
    rcases Int.le_total 0 n with h | h
    · have := Int.tmod_nonneg d h; omega
    · have := Int.tmod_lt_of_pos (-n) hd
      rw [Int.neg_tmod] at this
      omega
  rw [Int.mul_comm] at h1
  split
  · refine (Int.ediv_eq_iff_of_pos hd).2 ?_
    rw [Int.sub_mul]
    constructor <;> omega
  · refine (Int.ediv_eq_iff_of_pos hd).2 ?_
    constructor <;> omega
theorem floor_c (n d : Int) (w : World) (h1 : -4000000000000000000 ≤ n) (h2 : n ≤ 4000000000000000000) (d1 : 1 ≤ d) (d2 : d ≤ 4000000000000000000) :
    Calls Try.prog 25 #[.int .i64 n, .int .i64 d] w fun r w' => r = .returned (.int .i64 (n / d)) ∧ w = w' := by
  have hq := tdiv_floor (n := n) (d := d) (by omega)
  by_cases h0 : 0 ≤ n
  · have hm : 0 ≤ n % d := Int.emod_nonneg _ (by omega)
    have hd1 : 0 ≤ n / d := Int.ediv_nonneg h0 (by omega)
    have hd2 : n / d ≤ n := Int.ediv_le_self _ h0
    have e1 : (d == 0) = false := by simp; omega
    clear hq
    go_enter Try.func25, Try.ntmps25
    go_wp2
    go_ret
    exact ⟨rfl, rfl⟩
  · have e1 : (d == 0) = false := by simp; omega
    have hb1 : -4000000000000000000 ≤ n.tdiv d := by
      have := Int.ediv_le_self (a := -n) d (by omega)
      have h3 : (-n).tdiv d = -(n.tdiv d) := Int.neg_tdiv n d
      have h4 : (-n).tdiv d = (-n) / d := Int.tdiv_eq_ediv_of_nonneg (by omega)
      omega
    have hb2 : n.tdiv d ≤ 0 := by
      have := Int.ediv_nonneg (a := -n) (b := d) (by omega) (by omega)
      have h3 : (-n).tdiv d = -(n.tdiv d) := Int.neg_tdiv n d
      have h4 : (-n).tdiv d = (-n) / d := Int.tdiv_eq_ediv_of_nonneg (by omega)
      omega
    by_cases hm : n.tmod d < 0
    · rw [if_pos hm] at hq
      have HQ := hide hq
      clear hq
      have u1 : IntKind.i64.wrap (n.tdiv d) = n.tdiv d := by simp (disch := omega) only [IntWalk.i64_in]
      have u2 : wrap64 (n.tdiv d) = n.tdiv d := wrap64_id (by omega) (by omega)
      have u3 : wrap64 (n.tdiv d - 1) = n.tdiv d - 1 := wrap64_id (by omega) (by omega)
      go_enter Try.func25, Try.ntmps25
      go_wp2
      go_ret
      exact ⟨ret_int (by rw [HQ.out]), rfl⟩
    · rw [if_neg hm] at hq
      have HQ := hide hq
      clear hq
      have u1 : IntKind.i64.wrap (n.tdiv d) = n.tdiv d := by simp (disch := omega) only [IntWalk.i64_in]
      have u2 : wrap64 (n.tdiv d) = n.tdiv d := wrap64_id (by omega) (by omega)
      go_enter Try.func25, Try.ntmps25
      go_wp2
      go_ret
      exact ⟨ret_int (by rw [HQ.out]), rfl⟩

theorem ceil_c (n d : Int) (w : World) (h1 : -4000000000000000000 ≤ n) (h2 : n ≤ 4000000000000000000) (d1 : 1 ≤ d) (d2 : d ≤ 4000000000000000000) :
    Calls Try.prog 26 #[.int .i64 n, .int .i64 d] w fun r w' => r = .returned (.int .i64 (upD n d)) ∧ w = w' := by
  have hu := up_neg (n := n) (d := d) (by omega)
  have hb1 : -4000000000000000000 ≤ -n / d := (Int.le_ediv_iff_mul_le (by omega)).2 (by
    have := Int.mul_le_mul_of_nonneg_left (show 1 ≤ d by omega) (show (0 : Int) ≤ 4000000000000000000 by omega)
    omega)
  have hb2 : -n / d ≤ 4000000000000000000 := by
    have := (Int.ediv_lt_iff_lt_mul (a := -n) (b := 4000000000000000001) (show 0 < d by omega)).2 (by
      have := Int.mul_le_mul_of_nonneg_left (show 1 ≤ d by omega) (show (0 : Int) ≤ 4000000000000000001 by omega)
      omega)
    omega
  have HF := hide (fun W => floor_c (-n) d W (by omega) (by omega) d1 d2)
  have HU := hide hu
  clear hu
  generalize -n / d = q at HF HU hb1 hb2
  go_enter Try.func26, Try.ntmps26
  go_wp2_with (first | (go_at_call 25; refine (HF.out _).mono ?_; rintro e_ w_ ⟨rfl, rfl⟩))
  go_ret
  exact ⟨ret_int (by rw [← HU.out]), rfl⟩

theorem size_c (n : Int) (w : World) (h1 : -1000000000000000000 ≤ n) (h2 : n ≤ 1000000000000000000) : Calls Try.prog 58 #[.int .i64 n] w fun r w' => r = .returned (.int .i64 (max n (-n))) ∧ w = w' := by
  by_cases h : n < 0
  · have h' : ¬ (0 ≤ n) := by omega
    go_enter Try.func58, Try.ntmps58
    go_wp2
    all_goals (
      go_ret
      exact ⟨ret_int (by show (_ : Int) = _; omega), rfl⟩)
  · go_enter Try.func58, Try.ntmps58
    go_wp2
    all_goals (
      go_ret
      exact ⟨ret_int (by show (_ : Int) = _; omega), rfl⟩)


theorem few_c (A : Option Addr) (n c : Nat) (w : World) (h : n ≤ 9223372036854775807) : Calls Try.prog 10 #[.slice A n c] w fun r w' => r = .returned (.bool (decide ((n : Int) ≤ 22))) ∧ w = w' := by
  go_enter Try.func10, Try.ntmps10
  go_wp2
  go_ret
  exact ⟨rfl, rfl⟩
theorem Try.infoX : (Try.prog.info? 33).map (fun i => (i.zero, i.size, i.bytes)) = some (some (.agg #[.int .i64 0, .int .i64 0, .int .i64 0]), 3, 24) := by kernel_rfl
theorem copyExchanges_c (l : List PT) (A : Option Addr) (c : Nat) (w : World) (hr : Rd w A (ps l)) (hl : l.length ≤ 1000) :
    Calls Try.prog 12 #[.slice A l.length c] w fun r w' => (∃ A' c', r = .returned (.slice A' l.length c') ∧ Rd w' A' (ps l)) ∧ Below w.heap.size w w' := by
  obtain ⟨i0, hi, iz0, iz1, iz2⟩ := info_parts Try.infoX
  go_enter Try.func12, Try.ntmps12
  go_wp2_with (first | (at_builtin; refine wpList_append_rd _ rfl _ _ 22 rfl w.heap.size 33 i0 _ 3 24 Try.underlying22 hi iz0 iz1 iz2 rfl (by decide) (.slice (some ⟨w.heap.size, 0, none⟩) 0 0) 0 [] rfl (World.ownsRow_made w #[] 0 (Nat.le_refl _) (by unfold maxLen; omega) rfl) A l.length c (ps l) rfl (by simp) (hr.alloc _) (ps_one l) (by unfold maxLen; omega) (by omega) (by simp) ?_; intro v' w1 hown1 hg1))
  obtain ⟨A', c', rfl⟩ := ownsRow_slice hown1
  have hb : Below w.heap.size w w1 := ((Below.refl _ _).alloc (Nat.le_refl _) (.cells #[] 33)).grown hg1 (by simp) (by simp [Value.ownBlock])
  go_ret
  exact ⟨⟨A', c', by rw [Nat.zero_add]; rfl, by simpa using Rd.of_own hown1⟩, hb⟩

theorem exchangeErr_c (s t r : Int) (w : World) :
    Calls Try.prog 14 #[.agg #[.int .i64 s, .int .i64 t, .int .i64 r]] w fun e w' => e = .returned (.int .i64 (exE (s, t, r))) ∧ Below w.heap.size w w' := by
  cases h1 : outB s 0 1000000000000
  · cases h2 : outB t 0 1000000000000
    · cases h3 : outB r 0 1000000000000
      · by_cases h4 : r < s
        · have HR : Hid (exE (s, t, r) = 9) := by show _ = _; simp [exE, tickE, firstE, errIf, h1, h2, h3, h4]
          (
            have HI := hide (fun n W => isTick_c n W)
            go_enter Try.func14, Try.ntmps14
            go_wp2_with (first | (go_at_call 51; refine (HI.out _ _).mono ?_; rintro e_ w_ ⟨rfl, rfl⟩))
            go_ret
            exact ⟨by rw [HR.out]; rfl, alloc_bel _ _⟩)
        · have HR : Hid (exE (s, t, r) = 0) := by show _ = _; simp [exE, tickE, firstE, errIf, h1, h2, h3, h4]
          (
            have HI := hide (fun n W => isTick_c n W)
            go_enter Try.func14, Try.ntmps14
            go_wp2_with (first | (go_at_call 51; refine (HI.out _ _).mono ?_; rintro e_ w_ ⟨rfl, rfl⟩))
            go_ret
            exact ⟨by rw [HR.out]; rfl, alloc_bel _ _⟩)
      · have HR : Hid (exE (s, t, r) = 2) := by show _ = _; simp [exE, tickE, firstE, errIf, h1, h2, h3]
        (
          have HI := hide (fun n W => isTick_c n W)
          go_enter Try.func14, Try.ntmps14
          go_wp2_with (first | (go_at_call 51; refine (HI.out _ _).mono ?_; rintro e_ w_ ⟨rfl, rfl⟩))
          go_ret
          exact ⟨by rw [HR.out]; rfl, alloc_bel _ _⟩)
    · have HR : Hid (exE (s, t, r) = 2) := by show _ = _; simp [exE, tickE, firstE, errIf, h1, h2]
      (
        have HI := hide (fun n W => isTick_c n W)
        go_enter Try.func14, Try.ntmps14
        go_wp2_with (first | (go_at_call 51; refine (HI.out _ _).mono ?_; rintro e_ w_ ⟨rfl, rfl⟩))
        go_ret
        exact ⟨by rw [HR.out]; rfl, alloc_bel _ _⟩)
  · have HR : Hid (exE (s, t, r) = 2) := by show _ = _; simp [exE, tickE, firstE, errIf, h1]
    (
      have HI := hide (fun n W => isTick_c n W)
      go_enter Try.func14, Try.ntmps14
      go_wp2_with (first | (go_at_call 51; refine (HI.out _ _).mono ?_; rintro e_ w_ ⟨rfl, rfl⟩))
      go_ret
      exact ⟨by rw [HR.out]; rfl, alloc_bel _ _⟩)

theorem driftErr_c (d t : Int) (w : World) :
    Calls Try.prog 16 #[.int .i64 d, .int .i64 t] w fun e w' => e = .returned (.int .i64 (firstE [driftE d, tickE t])) ∧ w = w' := by
  have HI := hide (fun n W => isTick_c n W)
  have HW := hide (fun n W => within_c n 0 1000 W)
  cases h1 : outB d 0 1000
  · cases h2 : outB t 0 1000000000000
    · have HR : Hid (firstE [driftE d, tickE t] = 0) := by show _ = _; simp [driftE, tickE, firstE, errIf, h1, h2]
      go_enter Try.func16, Try.ntmps16
      go_wp2_with (first | (go_at_call 51; refine (HI.out _ _).mono ?_; rintro e_ w_ ⟨rfl, rfl⟩) | (go_at_call 23; refine (HW.out _ _).mono ?_; rintro e_ w_ ⟨rfl, rfl⟩))
      go_ret
      exact ⟨by rw [HR.out]; rfl, rfl⟩
    · have HR : Hid (firstE [driftE d, tickE t] = 2) := by show _ = _; simp [driftE, tickE, firstE, errIf, h1, h2]
      go_enter Try.func16, Try.ntmps16
      go_wp2_with (first | (go_at_call 51; refine (HI.out _ _).mono ?_; rintro e_ w_ ⟨rfl, rfl⟩) | (go_at_call 23; refine (HW.out _ _).mono ?_; rintro e_ w_ ⟨rfl, rfl⟩))
      go_ret
      exact ⟨by rw [HR.out]; rfl, rfl⟩
  · have HR : Hid (firstE [driftE d, tickE t] = 2) := by show _ = _; simp [driftE, tickE, firstE, errIf, h1]
    go_enter Try.func16, Try.ntmps16
    go_wp2_with (first | (go_at_call 51; refine (HI.out _ _).mono ?_; rintro e_ w_ ⟨rfl, rfl⟩) | (go_at_call 23; refine (HW.out _ _).mono ?_; rintro e_ w_ ⟨rfl, rfl⟩))
    go_ret
    exact ⟨by rw [HR.out]; rfl, rfl⟩

/-- The first error of exchanges, one by one. -/
theorem exs_none {l : List PT} (h : ∀ k (hk : k < l.length), exE l[k] = 0) : (firstBadFrom (fun _ x => exE x) 0 l).2 = 0 := by
  rw [firstBadFrom_none _ l 0 (fun i hi => h i hi)]
theorem exs_some {l : List PT} {k : Nat} (hk : k < l.length) (h0 : ∀ j (h : j < l.length), j < k → exE l[j] = 0) (h1 : exE l[k] ≠ 0) : (firstBadFrom (fun _ x => exE x) 0 l).2 = exE l[k] := by
  rw [firstBadFrom_some _ l 0 k hk (fun i hi => h0 i (by omega) hi) h1]
theorem exchangesErr_c (A : Option Addr) (c : Nat) (l : List PT) (w : World) (hr : Rd w A (ps l)) (hl : l.length ≤ 1000) :
    Calls Try.prog 57 #[.slice A l.length c] w fun e w' => e = .returned (.int .i64 (exsE l)) ∧ Below w.heap.size w w' := by
  by_cases h0 : l.length = 0
  · have HR : Hid (exsE l = 10) := by show _ = _; simp [exsE, firstE, errIf, h0]
    have e1 : ((l.length : Int) == 0) = true := by simp [h0]
    clear h0
    go_enter Try.func57, Try.ntmps57
    go_wp2
    go_ret
    exact ⟨by rw [HR.out]; rfl, Below.refl _ _⟩
  · have e1 : ((l.length : Int) == 0) = false := by simpa using h0
    by_cases h20 : (20 : Int) < (l.length : Int)
    · have HR : Hid (exsE l = 8) := by show _ = _; unfold exsE; rw [e1, decide_eq_true h20]; rfl
      go_enter Try.func57, Try.ntmps57
      go_wp2
      go_ret
      exact ⟨by rw [HR.out]; rfl, Below.refl _ _⟩
    · have HR : Hid (exsE l = (firstBadFrom (fun _ x => exE x) 0 l).2) := by
        show _ = _
        unfold exsE
        rw [e1, decide_eq_false h20]
        simp only [errIf, firstE, Bool.false_eq_true, if_false, if_true]
        split <;> omega
      have HE := hide (fun s t r W => exchangeErr_c s t r W)
      generalize exsE l = E at HR ⊢
      go_enter Try.func57, Try.ntmps57
      go_wp2
      go_loopw [3] (fun i wr => ∃ k : Nat, k ≤ l.length ∧ i = .int .i64 k ∧ Below w.heap.size w wr ∧ Hid (∀ j (h : j < l.length), j < k → exE l[j] = 0)) (fun i _ => l.length - (intOf i).toNat)
      case atStart => exact ⟨0, Nat.zero_le _, rfl, Below.refl _ _, fun _ _ h => by omega⟩
      case round =>
        obtain ⟨k, hk, rfl, hb, hz⟩ := hrel
        have hsz := hb.size
        by_cases hlt : k < l.length
        · obtain ⟨b, off, rfl, hblt, x0, x1, x2⟩ := (hr.bel hb).p_at hlt
          by_cases hq : exE l[k] = 0
          · have H1 : Hid (∀ j (h : j < l.length), j < k + 1 → exE l[j] = 0) := fun j h hj => by
              by_cases e : j = k
              · subst e; exact hq
              · exact hz.out j h (by omega)
            have HEK : Hid (∀ W, Calls Try.prog 14 #[.agg #[.int .i64 l[k].1, .int .i64 l[k].2.1, .int .i64 l[k].2.2]] W fun e w' => e = .returned (.int .i64 0) ∧ Below W.heap.size W w') := fun W => by have := HE.out l[k].1 l[k].2.1 l[k].2.2 W; rwa [show exE (l[k].1, l[k].2.1, l[k].2.2) = 0 from hq] at this
            clear hq
            go_wp2_with (first | (go_at_call 14; refine (HEK.out _).mono ?_; rintro e_ w1 ⟨rfl, hb1⟩))
            go_roundw
            case rel => exact ⟨k + 1, by omega, by go_num, bel_tr hb hsz hb1, H1⟩
            case measure => simp [intOf]; omega
          · have HF : Hid (E = exE l[k]) := by show _ = _; rw [HR.out]; exact exs_some hlt hz.out hq
            have HEK : Hid (∀ W, Calls Try.prog 14 #[.agg #[.int .i64 l[k].1, .int .i64 l[k].2.1, .int .i64 l[k].2.2]] W fun e w' => e = .returned (.int .i64 (exE l[k])) ∧ Below W.heap.size W w') := fun W => HE.out l[k].1 l[k].2.1 l[k].2.2 W
            have e2 : (exE l[k] != 0) = true := by simpa using hq
            generalize exE l[k] = x at HEK HF e2
            clear hq
            go_wp2_with (first | (go_at_call 14; refine (HEK.out _).mono ?_; rintro e_ w1 ⟨rfl, hb1⟩))
            go_ret
            exact ⟨by rw [HF.out]; rfl, bel_tr hb hsz hb1⟩
        · obtain rfl : k = l.length := by omega
          have HF : Hid (E = 0) := by show _ = _; rw [HR.out]; exact exs_none fun j hj => hz.out j hj hj
          go_wp2
          go_ret
          exact ⟨by rw [HF.out]; rfl, hb⟩
theorem clockErr_c (A : Option Addr) (c : Nat) (l : List PT) (d t : Int) (w : World) (hr : Rd w A (ps l)) (hl : l.length ≤ 1000) :
    Calls Try.prog 19 #[.slice A l.length c, .int .i64 d, .int .i64 t] w fun e w' => e = .returned (.int .i64 (offE l d t)) ∧ Below w.heap.size w w' := by
  have HX := hide (fun W h => exchangesErr_c A c l W h hl)
  have HD := hide (fun W => driftErr_c d t W)
  have HR : Hid (offE l d t = if exsE l = 0 then firstE [driftE d, tickE t] else exsE l) := rfl
  generalize firstE [driftE d, tickE t] = D at HD HR
  generalize offE l d t = E at HR ⊢
  generalize exsE l = X at HX HR
  by_cases h : X = 0
  · have HF : Hid (E = D) := by have := HR.out; rwa [if_pos h] at this
    subst h
    clear HR
    go_enter Try.func19, Try.ntmps19
    go_wp2_with (first | (go_at_call 57; refine (HX.out _ hr).mono ?_; rintro e_ w1 ⟨rfl, hb1⟩) | (go_at_call 16; refine (HD.out _).mono ?_; rintro e_ w_ ⟨rfl, rfl⟩))
    go_ret
    exact ⟨by rw [HF.out]; rfl, hb1⟩
  · have HF : Hid (E = X) := by have := HR.out; rwa [if_neg h] at this
    have e2 : (X != 0) = true := by simpa using h
    clear h HR
    go_enter Try.func19, Try.ntmps19
    go_wp2_with (first | (go_at_call 57; refine (HX.out _ hr).mono ?_; rintro e_ w1 ⟨rfl, hb1⟩))
    go_ret
    exact ⟨by rw [HF.out]; rfl, hb1⟩
end Go.Proofs.Ytmdmkmfemhkfgaa
