/- A group of texts (tools/groups.txt): E57 E58 E59 E60 E61. No condition but those that each says. -/
import Derived.Test.YtmdmkmfemhkfgaaES
set_option linter.unusedSimpArgs false
set_option linter.unusedVariables false
/- Contracts: the reference's Unpacked. -/
set_option linter.unusedSimpArgs false
set_option linter.unusedVariables false
namespace Go.Proofs.Ytmdmkmfemhkfgaa
open Go.RowKit
set_option maxRecDepth 100000

theorem okR_take {R : List G} {j : Nat} (h : j < R.length) : okR (R.take (j + 1)) = (okR (R.take j) && !(outB R[j].2 1 200)) := by
  rw [List.take_succ_eq_append_getElem h, okR_snoc]
theorem okR_at {R : List G} {j : Nat} (h : j < R.length) (hb : outB R[j].2 1 200 = true) : okR R = false :=
  okR_bad (show R = R.take j ++ R[j] :: R.drop (j + 1) by rw [List.getElem_cons_drop, List.take_append_drop]) hb
theorem expand_take {R : List G} {j : Nat} (h : j < R.length) : expand (R.take (j + 1)) = expand (R.take j) ++ List.replicate R[j].2.toNat R[j].1 := by
  rw [List.take_succ_eq_append_getElem h, expand_snoc]
set_option maxHeartbeats 4000000 in
theorem rU_way (way : Int) (l : List Int) (A : Option Addr) (c : Nat) (w : World) (hr : Rd w A (ints (l))) (hw : outB way 0 2 = true) :
    Calls Try.prog 31 #[.agg #[.int .i64 way, .slice A (l).length c]] w fun r w' => r = .returned (.tuple #[.slice none 0 0, .int .i64 15]) ∧ Below w.heap.size w w' := by
  obtain ⟨N, hN⟩ : ∃ N, l.length = N := ⟨_, rfl⟩
  rw [hN]
  clear hN
  obtain ⟨p, hp⟩ : ∃ p, w.heap.size = p := ⟨_, rfl⟩
  obtain ⟨W, hW⟩ : ∃ W, w.alloc (.cells #[.int .i64 way, .slice A N c] 54) = W := ⟨_, rfl⟩
  have hX : Blk W p 54 [.int .i64 way, .slice A N c] := by rw [← hW, ← hp]; exact Blk.new w _ [_, _]
  have hB : Below p w W := by rw [← hW, ← hp]; exact alloc_bel _ _
  have hrW := hr.bel (by rw [hp]; exact hB)
  have hpW := hX.lt
  have HW := hide hW
  clear hW hr
  have c0 := hX.cell 0; have c1 := hX.cell 1; simp only [List.getElem?_cons_zero, List.getElem?_cons_succ] at c0 c1
  have HWI := hide (fun a b c W => within_c a b c W)
  go_enter Try.func31, Try.ntmps31
  go_upto_region 1 with fail
  try rw [hp]
  rw [HW.out]
  go_wp2_with (first | (go_at_call 23; refine (HWI.out _ _ _ _).mono ?_; rintro e_ w_ ⟨rfl, rfl⟩; rw [hw]))
  go_ret2
  exact ⟨rfl, by first | exact hB | (rw [hp]; exact hB)⟩
set_option maxHeartbeats 4000000 in
theorem rU_many (way : Int) (l : List Int) (A : Option Addr) (c : Nat) (w : World) (hr : Rd w A (ints (l))) (hl : l.length ≤ 1000) (hw : outB way 0 2 = false) (hm : 400 < l.length) :
    Calls Try.prog 31 #[.agg #[.int .i64 way, .slice A (l).length c]] w fun r w' => r = .returned (.tuple #[.slice none 0 0, .int .i64 8]) ∧ Below w.heap.size w w' := by
  obtain ⟨N, hN⟩ : ∃ N, l.length = N := ⟨_, rfl⟩
  rw [hN] at hl hm ⊢
  clear hN
  have e1 : decide ((400 : Int) < (N : Int)) = true := decide_eq_true (by omega)
  have e2 : (400 : Int) < (N : Int) := by omega
  obtain ⟨p, hp⟩ : ∃ p, w.heap.size = p := ⟨_, rfl⟩
  obtain ⟨W, hW⟩ : ∃ W, w.alloc (.cells #[.int .i64 way, .slice A N c] 54) = W := ⟨_, rfl⟩
  have hX : Blk W p 54 [.int .i64 way, .slice A N c] := by rw [← hW, ← hp]; exact Blk.new w _ [_, _]
  have hB : Below p w W := by rw [← hW, ← hp]; exact alloc_bel _ _
  have hrW := hr.bel (by rw [hp]; exact hB)
  have hpW := hX.lt
  have HW := hide hW
  clear hW hr
  have c0 := hX.cell 0; have c1 := hX.cell 1; simp only [List.getElem?_cons_zero, List.getElem?_cons_succ] at c0 c1
  have HWI := hide (fun a b c W => within_c a b c W)
  go_enter Try.func31, Try.ntmps31
  go_upto_region 1 with fail
  try rw [hp]
  rw [HW.out]
  go_wp2_with (first | (go_at_call 23; refine (HWI.out _ _ _ _).mono ?_; rintro e_ w_ ⟨rfl, rfl⟩; rw [hw]))
  go_ret2
  exact ⟨rfl, by first | exact hB | (rw [hp]; exact hB)⟩
set_option maxHeartbeats 4000000 in
theorem rU_odd (way : Int) (l : List Int) (A : Option Addr) (c : Nat) (w : World) (hr : Rd w A (ints (l))) (hw0 : way ≠ 0) (hw : outB way 0 2 = false) (hm : l.length ≤ 400) (hpar : l.length % 2 = 1) :
    Calls Try.prog 31 #[.agg #[.int .i64 way, .slice A (l).length c]] w fun r w' => r = .returned (.tuple #[.slice none 0 0, .int .i64 10]) ∧ Below w.heap.size w w' := by
  obtain ⟨N, hN⟩ : ∃ N, l.length = N := ⟨_, rfl⟩
  rw [hN] at hm hpar ⊢
  clear hN
  have e1 : decide ((400 : Int) < (N : Int)) = false := decide_eq_false (by omega)
  have e2 : ¬ (400 : Int) < (N : Int) := by omega
  have e3 : (way == 0) = false := by simpa using hw0
  have e4 : ((N : Int).tmod 2 != 0) = true := by simp only [bne_iff_ne, ne_eq]; rw [Int.tmod_eq_emod_of_nonneg (by omega)]; omega
  have e5 : (N : Int).tmod 2 = 1 := by rw [Int.tmod_eq_emod_of_nonneg (by omega)]; omega
  clear hw0
  obtain ⟨p, hp⟩ : ∃ p, w.heap.size = p := ⟨_, rfl⟩
  obtain ⟨W, hW⟩ : ∃ W, w.alloc (.cells #[.int .i64 way, .slice A N c] 54) = W := ⟨_, rfl⟩
  have hX : Blk W p 54 [.int .i64 way, .slice A N c] := by rw [← hW, ← hp]; exact Blk.new w _ [_, _]
  have hB : Below p w W := by rw [← hW, ← hp]; exact alloc_bel _ _
  have hrW := hr.bel (by rw [hp]; exact hB)
  have hpW := hX.lt
  have HW := hide hW
  clear hW hr
  have c0 := hX.cell 0; have c1 := hX.cell 1; simp only [List.getElem?_cons_zero, List.getElem?_cons_succ] at c0 c1
  have HWI := hide (fun a b c W => within_c a b c W)
  go_enter Try.func31, Try.ntmps31
  go_upto_region 1 with fail
  try rw [hp]
  rw [HW.out]
  go_wp2_with (first | (go_at_call 23; refine (HWI.out _ _ _ _).mono ?_; rintro e_ w_ ⟨rfl, rfl⟩; rw [hw]))
  go_ret2
  exact ⟨rfl, by first | exact hB | (rw [hp]; exact hB)⟩
set_option maxHeartbeats 4000000 in
theorem rU_0 (l X : List Int) (e : Int) (A : Option Addr) (c : Nat) (w : World) (hr : Rd w A (ints (l))) (hm : l.length ≤ 400) (hl : l.length ≤ 200) (hse : serE l = e) (hXe : X = if e = 0 then l else []) :
    Calls Try.prog 31 #[.agg #[.int .i64 0, .slice A (l).length c]] w fun r w' => (∃ A' c', r = .returned (.tuple #[.slice A' X.length c', .int .i64 e]) ∧ Rd w' A' (ints X)) ∧ Below w.heap.size w w' := by
  have HCI := hide (fun W (h : Rd W A (ints l)) => copyInts_c l A c W h (by omega))
  replace hse := hide hse
  replace hXe := hide hXe
  obtain ⟨N, hN⟩ : ∃ N, l.length = N := ⟨_, rfl⟩
  have hM := hide hN
  rw [hN] at hm hl HCI ⊢
  clear hN
  have e1 : decide ((400 : Int) < (N : Int)) = false := decide_eq_false (by omega)
  have e2 : ¬ (400 : Int) < (N : Int) := by omega
  have e3 : decide ((200 : Int) < (N : Int)) = false := decide_eq_false (by omega)
  have e4 : ¬ (200 : Int) < (N : Int) := by omega
  have hw : outB 0 0 2 = false := by decide
  obtain ⟨p, hp⟩ : ∃ p, w.heap.size = p := ⟨_, rfl⟩
  obtain ⟨W, hW⟩ : ∃ W, w.alloc (.cells #[.int .i64 0, .slice A N c] 54) = W := ⟨_, rfl⟩
  have hX : Blk W p 54 [.int .i64 0, .slice A N c] := by rw [← hW, ← hp]; exact Blk.new w _ [_, _]
  have hB : Below p w W := by rw [← hW, ← hp]; exact alloc_bel _ _
  have hrW := hr.bel (by rw [hp]; exact hB)
  have hpW := hX.lt
  have HW := hide hW
  clear hW hr
  have c0 := hX.cell 0; have c1 := hX.cell 1; simp only [List.getElem?_cons_zero, List.getElem?_cons_succ] at c0 c1
  have HWI := hide (fun a b c W => within_c a b c W)
  go_enter Try.func31, Try.ntmps31
  go_upto_region 1 with fail
  try rw [hp]
  rw [HW.out]
  go_upto_region 6 with (first | (go_at_call 23; refine (HWI.out _ _ _ _).mono ?_; rintro e_ w_ ⟨rfl, rfl⟩; rw [hw]))
  go_upto_region 22 with (first | (go_at_call 28; refine (HCI.out _ hrW).mono ?_; rintro e_ w2 ⟨⟨A2, c2, rfl, ra2⟩, hb2⟩))
  have hX2 := hX.bel hb2
  have hB2 : Below p w w2 := bel_tr hB (by omega) hb2
  have rX := ra2.1
  clear c0 c1 hX hrW ra2 hb2 hB
  go_wp2
  go_loopw [8] (fun x wr => ∃ k : Nat, k ≤ N ∧ x = .int .i64 k ∧ Below w2.heap.size w2 wr ∧ Hid (∀ j (h : j < (l).length), j < k → outB (l)[j] (-1000000000) 1000000000 = false)) (fun x _ => N - (intOf x).toNat)
  case atStart => exact ⟨0, Nat.zero_le _, rfl, Below.refl _ _, fun _ _ h => by omega⟩
  case round =>
    obtain ⟨k, hk, rfl, hbr, h0⟩ := hrel
    have hXr := hX2.bel hbr
    have hpr := hXr.lt
    have c0 := hXr.cell 0; have c1 := hXr.cell 1; simp only [List.getElem?_cons_zero, List.getElem?_cons_succ] at c0 c1
    by_cases hlt : k < N
    · have iL : (k : Int) < (N : Int) := by omega
      have hlt' : k < (l).length := by have := hM.out; omega
      obtain ⟨b, off, rfl, hblt, x0⟩ := (rX.bel hbr).int_at hlt'
      cases hob : outB (l)[k] (-1000000000) 1000000000
      · have H1 : Hid (∀ j (h : j < (l).length), j < k + 1 → outB (l)[j] (-1000000000) 1000000000 = false) := fun j h hj => by
          by_cases e : j = k
          · subst e; exact hob
          · exact h0.out j h (by omega)
        generalize (l)[k] = x at x0 hob
        go_wp2_with (first | (go_at_call 23; refine (HWI.out _ _ _ _).mono ?_; rintro e_ w_ ⟨rfl, rfl⟩; rw [hob]))
        first
          | exact ⟨⟨k + 1, by omega, by go_num, hbr, H1⟩, by simp [intOf]; omega⟩
          | (go_roundw
             case rel => exact ⟨k + 1, by omega, by go_num, hbr, H1⟩
             case measure => simp [intOf]; omega)
      · have H1 := hide (serE_some (by have := hM.out; omega) hlt' h0.out hob)
        obtain ⟨hXn, hen⟩ : X = [] ∧ e = 2 := by have h1 := hse.out; rw [H1.out] at h1; subst h1; exact ⟨by rw [hXe.out, if_neg (by decide)], rfl⟩
        clear hse hXe H1
        subst hXn hen
        generalize (l)[k] = x at x0 hob
        go_wp2_with (first | (go_at_call 23; refine (HWI.out _ _ _ _).mono ?_; rintro e_ w_ ⟨rfl, rfl⟩; rw [hob]))
        go_ret2
        exact ⟨by first | exact ⟨none, ⟨0, rfl⟩, Rd.nil _ _⟩ | exact ⟨none, 0, rfl, Rd.nil _ _⟩, by first | exact bel_tr hB2 (by have := hX2.lt; omega) hbr | (rw [hp]; exact bel_tr hB2 (by have := hX2.lt; omega) hbr)⟩
    · obtain rfl : k = N := by omega
      have H1 := hide (serE_none (l := l) (by have := hM.out; omega) (fun j h => h0.out j h (by have := hM.out; omega)))
      obtain ⟨hXn, hen⟩ : X = l ∧ e = 0 := by have h1 := hse.out; rw [H1.out] at h1; subst h1; exact ⟨by rw [hXe.out, if_pos rfl], rfl⟩
      have hMM := hM.out
      clear hse hXe H1 hM h0
      subst hXn hen hMM
      go_wp2
      go_ret2
      exact ⟨by first | exact ⟨A2, ⟨c2, rfl⟩, rX.bel hbr⟩ | exact ⟨A2, c2, rfl, rX.bel hbr⟩, by first | exact bel_tr hB2 (by have := hX2.lt; omega) hbr | (rw [hp]; exact bel_tr hB2 (by have := hX2.lt; omega) hbr)⟩
set_option maxHeartbeats 4000000 in
theorem rU_0long (l : List Int) (A : Option Addr) (c : Nat) (w : World) (hr : Rd w A (ints (l))) (hm : l.length ≤ 400) (hl : 200 < l.length) :
    Calls Try.prog 31 #[.agg #[.int .i64 0, .slice A (l).length c]] w fun r w' => r = .returned (.tuple #[.slice none 0 0, .int .i64 8]) ∧ Below w.heap.size w w' := by
  have HCI := hide (fun W (h : Rd W A (ints l)) => copyInts_c l A c W h (by omega))
  obtain ⟨N, hN⟩ : ∃ N, l.length = N := ⟨_, rfl⟩
  rw [hN] at hm hl HCI ⊢
  clear hN
  have e1 : decide ((400 : Int) < (N : Int)) = false := decide_eq_false (by omega)
  have e2 : ¬ (400 : Int) < (N : Int) := by omega
  have e3 : decide ((200 : Int) < (N : Int)) = true := decide_eq_true (by omega)
  have e4 : (200 : Int) < (N : Int) := by omega
  have hw : outB 0 0 2 = false := by decide
  obtain ⟨p, hp⟩ : ∃ p, w.heap.size = p := ⟨_, rfl⟩
  obtain ⟨W, hW⟩ : ∃ W, w.alloc (.cells #[.int .i64 0, .slice A N c] 54) = W := ⟨_, rfl⟩
  have hX : Blk W p 54 [.int .i64 0, .slice A N c] := by rw [← hW, ← hp]; exact Blk.new w _ [_, _]
  have hB : Below p w W := by rw [← hW, ← hp]; exact alloc_bel _ _
  have hrW := hr.bel (by rw [hp]; exact hB)
  have hpW := hX.lt
  have HW := hide hW
  clear hW hr
  have c0 := hX.cell 0; have c1 := hX.cell 1; simp only [List.getElem?_cons_zero, List.getElem?_cons_succ] at c0 c1
  have HWI := hide (fun a b c W => within_c a b c W)
  go_enter Try.func31, Try.ntmps31
  go_upto_region 1 with fail
  try rw [hp]
  rw [HW.out]
  go_wp2_with (first
    | (go_at_call 23; refine (HWI.out _ _ _ _).mono ?_; rintro e_ w_ ⟨rfl, rfl⟩; rw [hw])
    | (go_at_call 28; refine (HCI.out _ hrW).mono ?_; rintro e_ w2 ⟨⟨A2, c2, rfl, ra2⟩, hb2⟩))
  go_ret2
  exact ⟨rfl, by first | exact bel_tr hB (by omega) hb2 | (rw [hp]; exact bel_tr hB (by omega) hb2)⟩
end Go.Proofs.Ytmdmkmfemhkfgaa

/- Contracts: the reference's Unpacked, runs. -/
set_option linter.unusedSimpArgs false
set_option linter.unusedVariables false
namespace Go.Proofs.Ytmdmkmfemhkfgaa
open Go.RowKit
set_option maxRecDepth 100000

set_option maxHeartbeats 4000000 in
theorem rU1_count (R : List G) (A : Option Addr) (c : Nat) (w : World) (hr : Rd w A (ints (flat R))) (hm : (flat R).length ≤ 400) (hbad : okR R = false) :
    Calls Try.prog 31 #[.agg #[.int .i64 1, .slice A (flat R).length c]] w fun r w' => r = .returned (.tuple #[.slice none 0 0, .int .i64 2]) ∧ Below w.heap.size w w' := by
  obtain ⟨i0, hi, iz0, iz1, iz2⟩ := info_parts Try.infoN
  have hfl := flat_length R
  obtain ⟨N, hN⟩ : ∃ N, (flat R).length = N := ⟨_, rfl⟩
  rw [hN] at hm hfl ⊢
  have hRl : R.length ≤ 200 := by omega
  have hN' := hide hN
  have hfl' := hide hfl
  have hpar : ((N : Int).tmod 2 != 0) = false := by rw [hfl]; simp
  have hpar2 : ((N : Int) % 2 != 0) = false := by rw [hfl]; simp
  have e1 : decide ((400 : Int) < (N : Int)) = false := decide_eq_false (by omega)
  have e2 : ¬ (400 : Int) < (N : Int) := by omega
  have hw : outB 1 0 2 = false := by decide
  clear hN hfl
  obtain ⟨p, hp⟩ : ∃ p, w.heap.size = p := ⟨_, rfl⟩
  obtain ⟨W, hW⟩ : ∃ W, w.alloc (.cells #[.int .i64 1, .slice A N c] 54) = W := ⟨_, rfl⟩
  have hX : Blk W p 54 [.int .i64 1, .slice A N c] := by rw [← hW, ← hp]; exact Blk.new w _ [_, _]
  have hB : Below p w W := by rw [← hW, ← hp]; exact alloc_bel _ _
  have hrW := hr.bel (by rw [hp]; exact hB)
  have hpW := hX.lt
  have HW := hide hW
  clear hW hr
  have c0 := hX.cell 0; have c1 := hX.cell 1; simp only [List.getElem?_cons_zero, List.getElem?_cons_succ] at c0 c1
  have HWI := hide (fun a b c W => within_c a b c W)
  go_enter Try.func31, Try.ntmps31
  go_upto_region 1 with fail
  try rw [hp]
  rw [HW.out]
  go_upto_region 6 with (first | (go_at_call 23; refine (HWI.out _ _ _ _).mono ?_; rintro e_ w_ ⟨rfl, rfl⟩; rw [hw]))
  clear hw
  go_upto_region 10 with fail
  go_wp2
  clear hpar hpar2 e1 e2 c0 c1
  go_loopw [5] (fun x wr => ∃ j E : Nat, x = .int .i64 (E : Int) ∧ Hid (E = 2 * j + 1) ∧ j ≤ R.length ∧ Below W.heap.size W wr ∧ Hid (okR (R.take j) = true)) (fun x _ => N + 1 - (intOf x).toNat)
  case atStart => exact ⟨0, 1, rfl, rfl, Nat.zero_le _, Below.refl _ _, rfl⟩
  case round =>
    obtain ⟨j, E, rfl, hE, hj, hbr, hok⟩ := hrel
    obtain ⟨w1, hw1⟩ : ∃ w1 : World, w1 = wr := ⟨_, rfl⟩
    subst hw1
    have hXr := hX.bel hbr
    have hpr := hXr.lt
    have hBr : Below p w w1 := bel_tr hB (by omega) hbr
    have c0 := hXr.cell 0; have c1 := hXr.cell 1; simp only [List.getElem?_cons_zero, List.getElem?_cons_succ] at c0 c1
    have hEo := hE.out
    have hfo := hfl'.out
    by_cases hlt : j < R.length
    · have hf1 : E < (flat R).length := by rw [hN'.out]; omega
      obtain ⟨b, off, rfl, hblt, x0⟩ := (hrW.bel hbr).int_at hf1
      have hg1 : (flat R)[E]'hf1 = R[j].2 := by
        have := (flat_at hlt).2
        rw [← hEo, List.getElem?_eq_getElem hf1] at this
        exact Option.some.inj this
      rw [hg1] at x0
      have hEN : E < N := by omega
      have iE : (E : Int) < (N : Int) := by omega
      have u1 : IntKind.i64.wrap ((E : Int) + 2) = (E : Int) + 2 := by simp (disch := omega) only [IntWalk.i64_in]
      have hok1 := hide (okR_take hlt)
      have hokb := hide (fun h => okR_at hlt h)
      have hE2 : Hid (E + 2 = 2 * (j + 1) + 1) := by show _ = _; omega
      clear hEo hfo hg1
      cases hob : outB R[j].2 1 200
      · have H1 : Hid (okR (R.take (j + 1)) = true) := by show _ = _; rw [hok1.out, hok.out, hob]; rfl
        generalize R[j].2 = m at x0 hob
        clear hok1 hokb
        go_wp2_with (first | (go_at_call 23; refine (HWI.out _ _ _ _).mono ?_; rintro e_ w_ ⟨rfl, rfl⟩; rw [hob]))
        first
          | exact ⟨⟨j + 1, E + 2, by go_num, hE2, by omega, hbr, H1⟩, by simp [intOf]; omega⟩
          | (go_roundw
             case rel => exact ⟨j + 1, E + 2, by go_num, hE2, by omega, hbr, H1⟩
             case measure => simp [intOf]; omega)
      · have H1 := hide (hokb.out hob)
        generalize R[j].2 = m at x0 hob
        clear hok1 hokb H1
        go_wp2_with (first | (go_at_call 23; refine (HWI.out _ _ _ _).mono ?_; rintro e_ w_ ⟨rfl, rfl⟩; rw [hob]))
        go_ret2
        exact ⟨rfl, by first | exact hBr | (rw [hp]; exact hBr)⟩
    · obtain rfl : j = R.length := by omega
      have iE : ¬ (E : Int) < (N : Int) := by omega
      have iE2 : decide ((E : Int) < (N : Int)) = false := decide_eq_false iE
      have hokR : Hid (okR R = true) := by show _ = _; have := hok.out; rwa [List.take_of_length_le (Nat.le_refl _)] at this
      clear hEo hfo hok
      exact absurd hbad (by rw [hokR.out]; decide)
set_option maxHeartbeats 4000000 in
theorem rU2_count (R : List G) (A : Option Addr) (c : Nat) (w : World) (hr : Rd w A (ints (flat R))) (hm : (flat R).length ≤ 400) (hbad : okR R = false) :
    Calls Try.prog 31 #[.agg #[.int .i64 2, .slice A (flat R).length c]] w fun r w' => r = .returned (.tuple #[.slice none 0 0, .int .i64 2]) ∧ Below w.heap.size w w' := by
  obtain ⟨i0, hi, iz0, iz1, iz2⟩ := info_parts Try.infoN
  have hfl := flat_length R
  obtain ⟨N, hN⟩ : ∃ N, (flat R).length = N := ⟨_, rfl⟩
  rw [hN] at hm hfl ⊢
  have hRl : R.length ≤ 200 := by omega
  have hN' := hide hN
  have hfl' := hide hfl
  have hpar : ((N : Int).tmod 2 != 0) = false := by rw [hfl]; simp
  have hpar2 : ((N : Int) % 2 != 0) = false := by rw [hfl]; simp
  have e1 : decide ((400 : Int) < (N : Int)) = false := decide_eq_false (by omega)
  have e2 : ¬ (400 : Int) < (N : Int) := by omega
  have hw : outB 2 0 2 = false := by decide
  clear hN hfl
  obtain ⟨p, hp⟩ : ∃ p, w.heap.size = p := ⟨_, rfl⟩
  obtain ⟨W, hW⟩ : ∃ W, w.alloc (.cells #[.int .i64 2, .slice A N c] 54) = W := ⟨_, rfl⟩
  have hX : Blk W p 54 [.int .i64 2, .slice A N c] := by rw [← hW, ← hp]; exact Blk.new w _ [_, _]
  have hB : Below p w W := by rw [← hW, ← hp]; exact alloc_bel _ _
  have hrW := hr.bel (by rw [hp]; exact hB)
  have hpW := hX.lt
  have HW := hide hW
  clear hW hr
  have c0 := hX.cell 0; have c1 := hX.cell 1; simp only [List.getElem?_cons_zero, List.getElem?_cons_succ] at c0 c1
  have HWI := hide (fun a b c W => within_c a b c W)
  go_enter Try.func31, Try.ntmps31
  go_upto_region 1 with fail
  try rw [hp]
  rw [HW.out]
  go_upto_region 6 with (first | (go_at_call 23; refine (HWI.out _ _ _ _).mono ?_; rintro e_ w_ ⟨rfl, rfl⟩; rw [hw]))
  clear hw
  go_upto_region 10 with fail
  go_wp2
  clear hpar hpar2 e1 e2 c0 c1
  go_loopw [5] (fun x wr => ∃ j E : Nat, x = .int .i64 (E : Int) ∧ Hid (E = 2 * j + 1) ∧ j ≤ R.length ∧ Below W.heap.size W wr ∧ Hid (okR (R.take j) = true)) (fun x _ => N + 1 - (intOf x).toNat)
  case atStart => exact ⟨0, 1, rfl, rfl, Nat.zero_le _, Below.refl _ _, rfl⟩
  case round =>
    obtain ⟨j, E, rfl, hE, hj, hbr, hok⟩ := hrel
    obtain ⟨w1, hw1⟩ : ∃ w1 : World, w1 = wr := ⟨_, rfl⟩
    subst hw1
    have hXr := hX.bel hbr
    have hpr := hXr.lt
    have hBr : Below p w w1 := bel_tr hB (by omega) hbr
    have c0 := hXr.cell 0; have c1 := hXr.cell 1; simp only [List.getElem?_cons_zero, List.getElem?_cons_succ] at c0 c1
    have hEo := hE.out
    have hfo := hfl'.out
    by_cases hlt : j < R.length
    · have hf1 : E < (flat R).length := by rw [hN'.out]; omega
      obtain ⟨b, off, rfl, hblt, x0⟩ := (hrW.bel hbr).int_at hf1
      have hg1 : (flat R)[E]'hf1 = R[j].2 := by
        have := (flat_at hlt).2
        rw [← hEo, List.getElem?_eq_getElem hf1] at this
        exact Option.some.inj this
      rw [hg1] at x0
      have hEN : E < N := by omega
      have iE : (E : Int) < (N : Int) := by omega
      have u1 : IntKind.i64.wrap ((E : Int) + 2) = (E : Int) + 2 := by simp (disch := omega) only [IntWalk.i64_in]
      have hok1 := hide (okR_take hlt)
      have hokb := hide (fun h => okR_at hlt h)
      have hE2 : Hid (E + 2 = 2 * (j + 1) + 1) := by show _ = _; omega
      clear hEo hfo hg1
      cases hob : outB R[j].2 1 200
      · have H1 : Hid (okR (R.take (j + 1)) = true) := by show _ = _; rw [hok1.out, hok.out, hob]; rfl
        generalize R[j].2 = m at x0 hob
        clear hok1 hokb
        go_wp2_with (first | (go_at_call 23; refine (HWI.out _ _ _ _).mono ?_; rintro e_ w_ ⟨rfl, rfl⟩; rw [hob]))
        first
          | exact ⟨⟨j + 1, E + 2, by go_num, hE2, by omega, hbr, H1⟩, by simp [intOf]; omega⟩
          | (go_roundw
             case rel => exact ⟨j + 1, E + 2, by go_num, hE2, by omega, hbr, H1⟩
             case measure => simp [intOf]; omega)
      · have H1 := hide (hokb.out hob)
        generalize R[j].2 = m at x0 hob
        clear hok1 hokb H1
        go_wp2_with (first | (go_at_call 23; refine (HWI.out _ _ _ _).mono ?_; rintro e_ w_ ⟨rfl, rfl⟩; rw [hob]))
        go_ret2
        exact ⟨rfl, by first | exact hBr | (rw [hp]; exact hBr)⟩
    · obtain rfl : j = R.length := by omega
      have iE : ¬ (E : Int) < (N : Int) := by omega
      have iE2 : decide ((E : Int) < (N : Int)) = false := decide_eq_false iE
      have hokR : Hid (okR R = true) := by show _ = _; have := hok.out; rwa [List.take_of_length_le (Nat.le_refl _)] at this
      clear hEo hfo hok
      exact absurd hbad (by rw [hokR.out]; decide)
set_option maxHeartbeats 4000000 in
theorem rU1_long (R : List G) (A : Option Addr) (c : Nat) (w : World) (hr : Rd w A (ints (flat R))) (hm : (flat R).length ≤ 400) (hgood : okR R = true) (hlong : 200 < (expand R).length) :
    Calls Try.prog 31 #[.agg #[.int .i64 1, .slice A (flat R).length c]] w fun r w' => r = .returned (.tuple #[.slice none 0 0, .int .i64 8]) ∧ Below w.heap.size w w' := by
  obtain ⟨i0, hi, iz0, iz1, iz2⟩ := info_parts Try.infoN
  have hfl := flat_length R
  obtain ⟨N, hN⟩ : ∃ N, (flat R).length = N := ⟨_, rfl⟩
  rw [hN] at hm hfl ⊢
  have hRl : R.length ≤ 200 := by omega
  have hN' := hide hN
  have hfl' := hide hfl
  have hpar : ((N : Int).tmod 2 != 0) = false := by rw [hfl]; simp
  have hpar2 : ((N : Int) % 2 != 0) = false := by rw [hfl]; simp
  have e1 : decide ((400 : Int) < (N : Int)) = false := decide_eq_false (by omega)
  have e2 : ¬ (400 : Int) < (N : Int) := by omega
  have hw : outB 1 0 2 = false := by decide
  clear hN hfl
  obtain ⟨p, hp⟩ : ∃ p, w.heap.size = p := ⟨_, rfl⟩
  obtain ⟨W, hW⟩ : ∃ W, w.alloc (.cells #[.int .i64 1, .slice A N c] 54) = W := ⟨_, rfl⟩
  have hX : Blk W p 54 [.int .i64 1, .slice A N c] := by rw [← hW, ← hp]; exact Blk.new w _ [_, _]
  have hB : Below p w W := by rw [← hW, ← hp]; exact alloc_bel _ _
  have hrW := hr.bel (by rw [hp]; exact hB)
  have hpW := hX.lt
  have HW := hide hW
  clear hW hr
  have c0 := hX.cell 0; have c1 := hX.cell 1; simp only [List.getElem?_cons_zero, List.getElem?_cons_succ] at c0 c1
  have HWI := hide (fun a b c W => within_c a b c W)
  go_enter Try.func31, Try.ntmps31
  go_upto_region 1 with fail
  try rw [hp]
  rw [HW.out]
  go_upto_region 6 with (first | (go_at_call 23; refine (HWI.out _ _ _ _).mono ?_; rintro e_ w_ ⟨rfl, rfl⟩; rw [hw]))
  clear hw
  go_upto_region 10 with fail
  go_wp2
  clear hpar hpar2 e1 e2 c0 c1
  go_loopw [5] (fun x wr => ∃ j E : Nat, x = .int .i64 (E : Int) ∧ Hid (E = 2 * j + 1) ∧ j ≤ R.length ∧ Below W.heap.size W wr ∧ Hid (okR (R.take j) = true)) (fun x _ => N + 1 - (intOf x).toNat)
  case atStart => exact ⟨0, 1, rfl, rfl, Nat.zero_le _, Below.refl _ _, rfl⟩
  case round =>
    obtain ⟨j, E, rfl, hE, hj, hbr, hok⟩ := hrel
    obtain ⟨w1, hw1⟩ : ∃ w1 : World, w1 = wr := ⟨_, rfl⟩
    subst hw1
    have hXr := hX.bel hbr
    have hpr := hXr.lt
    have hBr : Below p w w1 := bel_tr hB (by omega) hbr
    have c0 := hXr.cell 0; have c1 := hXr.cell 1; simp only [List.getElem?_cons_zero, List.getElem?_cons_succ] at c0 c1
    have hEo := hE.out
    have hfo := hfl'.out
    by_cases hlt : j < R.length
    · have hf1 : E < (flat R).length := by rw [hN'.out]; omega
      obtain ⟨b, off, rfl, hblt, x0⟩ := (hrW.bel hbr).int_at hf1
      have hg1 : (flat R)[E]'hf1 = R[j].2 := by
        have := (flat_at hlt).2
        rw [← hEo, List.getElem?_eq_getElem hf1] at this
        exact Option.some.inj this
      rw [hg1] at x0
      have hEN : E < N := by omega
      have iE : (E : Int) < (N : Int) := by omega
      have u1 : IntKind.i64.wrap ((E : Int) + 2) = (E : Int) + 2 := by simp (disch := omega) only [IntWalk.i64_in]
      have hok1 := hide (okR_take hlt)
      have hokb := hide (fun h => okR_at hlt h)
      have hE2 : Hid (E + 2 = 2 * (j + 1) + 1) := by show _ = _; omega
      clear hEo hfo hg1
      cases hob : outB R[j].2 1 200
      · have H1 : Hid (okR (R.take (j + 1)) = true) := by show _ = _; rw [hok1.out, hok.out, hob]; rfl
        generalize R[j].2 = m at x0 hob
        clear hok1 hokb
        go_wp2_with (first | (go_at_call 23; refine (HWI.out _ _ _ _).mono ?_; rintro e_ w_ ⟨rfl, rfl⟩; rw [hob]))
        first
          | exact ⟨⟨j + 1, E + 2, by go_num, hE2, by omega, hbr, H1⟩, by simp [intOf]; omega⟩
          | (go_roundw
             case rel => exact ⟨j + 1, E + 2, by go_num, hE2, by omega, hbr, H1⟩
             case measure => simp [intOf]; omega)
      · have H1 := hide (hokb.out hob)
        exact absurd hgood (by rw [H1.out]; decide)
    · obtain rfl : j = R.length := by omega
      have iE : ¬ (E : Int) < (N : Int) := by omega
      have iE2 : decide ((E : Int) < (N : Int)) = false := decide_eq_false iE
      have hokR : Hid (okR R = true) := by show _ = _; have := hok.out; rwa [List.take_of_length_le (Nat.le_refl _)] at this
      clear hEo hfo hok
      have hgR := hide (ok_counts hgood)
      have heR := expand_ok R hgood
      have hB2 := hBr
      have hX2 := hXr
      have hr2 := hrW.bel hbr
      have hp1 : p < w1.heap.size := hpr
      clear hgood hokR hE hbr hX hB hrW
      go_wp2
      clear c0 c1
      go_loopw [4, 6] (fun v x wr => ∃ j E M : Nat, ∃ X : List Int, x = .int .i64 (E : Int) ∧ Hid (E = 2 * j) ∧ j ≤ R.length ∧ Below w1.heap.size w1 wr ∧ Hid (X = expand (R.take j)) ∧ Hid (X.length = M) ∧ M ≤ 200 * j ∧ wr.ownsRow w1.heap.size 3 1 v M (ints X)) (fun _ x _ => N - (intOf x).toNat)
      case atStart => exact ⟨0, 0, 0, [], rfl, rfl, Nat.zero_le _, Below.refl _ _, rfl, rfl, by omega, World.ownsRow_nil _ _ _ _⟩
      case round =>
        obtain ⟨j, E, M, X, rfl, hE, hj, hb3, hXe, hXl, hM, hown⟩ := hrel
        have hX3 := hX2.bel hb3
        have hz3 := hb3.size
        have c0 := hX3.cell 0; have c1 := hX3.cell 1; simp only [List.getElem?_cons_zero, List.getElem?_cons_succ] at c0 c1
        have hEo := hE.out
        have hfo := hfl'.out
        by_cases hlt : j < R.length
        · have hf0 : E < (flat R).length := by rw [hN'.out]; omega
          have hf1 : E + 1 < (flat R).length := by rw [hN'.out]; omega
          obtain ⟨b, off, rfl, hblt, x0⟩ := hr2.int_at hf0
          obtain ⟨_, _, e', _, y0⟩ := hr2.int_at hf1
          injection e' with e'
          injection e' with eb eo
          subst eb eo
          have hg0 : (flat R)[E]'hf0 = R[j].1 := by
            have := (flat_at hlt).1
            rw [← hEo, List.getElem?_eq_getElem hf0] at this
            exact Option.some.inj this
          have hg1 : (flat R)[E + 1]'hf1 = R[j].2 := by
            have := (flat_at hlt).2
            rw [← hEo, List.getElem?_eq_getElem hf1] at this
            exact Option.some.inj this
          rw [hg0] at x0
          rw [hg1] at y0
          have hmb := hgR.out R[j] (List.getElem_mem hlt)
          have hET := hide (expand_take hlt)
          have hE2 : Hid (E + 2 = 2 * (j + 1)) := by show _ = _; omega
          have iE : (E : Int) < (N : Int) := by omega
          have u2 : IntKind.i64.wrap ((E : Int) + 2) = (E : Int) + 2 := by simp (disch := omega) only [IntWalk.i64_in]
          obtain ⟨E1, hE1⟩ : ∃ E1, E + 1 = E1 := ⟨_, rfl⟩
          have u1 : IntKind.i64.wrap ((E : Int) + 1) = (E1 : Int) := by rw [show (E : Int) + 1 = (E1 : Int) by omega]; simp (disch := omega) only [IntWalk.i64_in]
          have iE1 : (E1 : Int) < (N : Int) := by omega
          rw [hE1] at y0
          have hwM : M ≤ 40000 := by omega
          clear hEo hfo hg0 hg1 hE1 hf0 hf1
          generalize R[j] = rj at x0 y0 hmb hET
          obtain ⟨y, m⟩ := rj
          dsimp only at x0 y0 hmb hET
          obtain ⟨m, rfl⟩ : ∃ k : Nat, m = (k : Int) := ⟨m.toNat, by omega⟩
          obtain ⟨Av, cv, rfl⟩ := ownsRow_slice hown
          go_wp2
          clear c0 c1
          go_loopw [4, 7] (fun v x wr => ∃ k : Nat, k ≤ m ∧ x = .int .i64 (k : Int) ∧ Below w1.heap.size w1 wr ∧ wr.ownsRow w1.heap.size 3 1 v (M + k) (ints (X ++ List.replicate k y))) (fun _ x _ => m - (intOf x).toNat)
          case atStart => exact ⟨0, Nat.zero_le _, rfl, hb3, by simpa using hown⟩
          case round =>
            obtain ⟨k, hk, rfl, hb4, hown4⟩ := hrel
            have hX4 := hX2.bel hb4
            have x4 := (hb4.cell (p := ⟨b, off + E, none⟩) hblt).trans x0
            have y4 := (hb4.cell (p := ⟨b, off + E1, none⟩) hblt).trans y0
            have hz4 := hb4.size
            have c0 := hX4.cell 0; have c1 := hX4.cell 1; simp only [List.getElem?_cons_zero, List.getElem?_cons_succ] at c0 c1
            obtain ⟨A4, c4, rfl⟩ := ownsRow_slice hown4
            by_cases hkm : k < m
            · have ik : (k : Int) < (m : Int) := by omega
              go_wp2_with (at_builtin; refine wpList_append_own _ rfl _ _ 47 rfl w1.heap.size 3 i0 _ 1 8 Try.underlying47 hi iz0 iz1 iz2 rfl (by decide) _ _ _ rfl (hown4.alloc _) ⟨wr.heap.size, 0, none⟩ 1 1 [.int .i64 y] rfl rfl (World.news_of_block (heap_alloc_new wr _)) (by simp [Value.oneCell']) (by unfold maxLen; omega) (by omega) (by simp; omega) ?_; intro v' w8 hown8 hg8 _)
              have hb8 : Below w1.heap.size w1 w8 := (bel_alloc hb4 hz4 _).grown hg8 (by simp; omega) (fun j hj => by have := (hown4.lt j hj).1; omega)
              go_roundw
              case rel => exact ⟨k + 1, by omega, by go_num, hb8, by rw [List.replicate_succ', ← List.append_assoc, ints_append]; exact hown8⟩
              case measure => simp [intOf]; omega
            · obtain rfl : k = m := by omega
              have ik : ¬ (k : Int) < (k : Int) := by omega
              have hX1 : Hid (X ++ List.replicate k y = expand (R.take (j + 1))) := by show _ = _; rw [hET.out, hXe.out]; rfl
              have hL1 : Hid ((X ++ List.replicate k y).length = M + k) := by show _ = _; rw [List.length_append, List.length_replicate, hXl.out]
              go_wp2
              go_roundw
              case rel => exact ⟨j + 1, E + 2, M + k, _, by go_num, hE2, by omega, hb4, hX1, hL1, by omega, hown4⟩
              case measure => simp [intOf]; omega
        · obtain rfl : j = R.length := by omega
          have iE : ¬ (E : Int) < (N : Int) := by omega
          have hXR := hXe
          rw [List.take_of_length_le (Nat.le_refl _)] at hXR
          clear hXe hEo hfo hgR
          obtain ⟨Av, cv, rfl⟩ := ownsRow_slice hown
          obtain ⟨w2, hw2⟩ : ∃ w2 : World, w2 = wr := ⟨_, rfl⟩
          subst hw2
          have hBv : Below p w w2 := bel_tr hB2 (by omega) hb3

          have hML : 200 < M := by have h1 := hXl.out; rw [hXR.out] at h1; omega
          have e3 : decide ((200 : Int) < (M : Int)) = true := decide_eq_true (by omega)
          have e4 : (200 : Int) < (M : Int) := by omega
          go_wp2
          go_ret2
          exact ⟨rfl, by first | exact hBv | (rw [hp]; exact hBv)⟩

set_option maxHeartbeats 4000000 in
theorem rU2_long (R : List G) (A : Option Addr) (c : Nat) (w : World) (hr : Rd w A (ints (flat R))) (hm : (flat R).length ≤ 400) (hgood : okR R = true) (hlong : 200 < (expand R).length) :
    Calls Try.prog 31 #[.agg #[.int .i64 2, .slice A (flat R).length c]] w fun r w' => r = .returned (.tuple #[.slice none 0 0, .int .i64 8]) ∧ Below w.heap.size w w' := by
  obtain ⟨i0, hi, iz0, iz1, iz2⟩ := info_parts Try.infoN
  have hfl := flat_length R
  obtain ⟨N, hN⟩ : ∃ N, (flat R).length = N := ⟨_, rfl⟩
  rw [hN] at hm hfl ⊢
  have hRl : R.length ≤ 200 := by omega
  have hN' := hide hN
  have hfl' := hide hfl
  have hpar : ((N : Int).tmod 2 != 0) = false := by rw [hfl]; simp
  have hpar2 : ((N : Int) % 2 != 0) = false := by rw [hfl]; simp
  have e1 : decide ((400 : Int) < (N : Int)) = false := decide_eq_false (by omega)
  have e2 : ¬ (400 : Int) < (N : Int) := by omega
  have hw : outB 2 0 2 = false := by decide
  clear hN hfl
  obtain ⟨p, hp⟩ : ∃ p, w.heap.size = p := ⟨_, rfl⟩
  obtain ⟨W, hW⟩ : ∃ W, w.alloc (.cells #[.int .i64 2, .slice A N c] 54) = W := ⟨_, rfl⟩
  have hX : Blk W p 54 [.int .i64 2, .slice A N c] := by rw [← hW, ← hp]; exact Blk.new w _ [_, _]
  have hB : Below p w W := by rw [← hW, ← hp]; exact alloc_bel _ _
  have hrW := hr.bel (by rw [hp]; exact hB)
  have hpW := hX.lt
  have HW := hide hW
  clear hW hr
  have c0 := hX.cell 0; have c1 := hX.cell 1; simp only [List.getElem?_cons_zero, List.getElem?_cons_succ] at c0 c1
  have HWI := hide (fun a b c W => within_c a b c W)
  go_enter Try.func31, Try.ntmps31
  go_upto_region 1 with fail
  try rw [hp]
  rw [HW.out]
  go_upto_region 6 with (first | (go_at_call 23; refine (HWI.out _ _ _ _).mono ?_; rintro e_ w_ ⟨rfl, rfl⟩; rw [hw]))
  clear hw
  go_upto_region 10 with fail
  go_wp2
  clear hpar hpar2 e1 e2 c0 c1
  go_loopw [5] (fun x wr => ∃ j E : Nat, x = .int .i64 (E : Int) ∧ Hid (E = 2 * j + 1) ∧ j ≤ R.length ∧ Below W.heap.size W wr ∧ Hid (okR (R.take j) = true)) (fun x _ => N + 1 - (intOf x).toNat)
  case atStart => exact ⟨0, 1, rfl, rfl, Nat.zero_le _, Below.refl _ _, rfl⟩
  case round =>
    obtain ⟨j, E, rfl, hE, hj, hbr, hok⟩ := hrel
    obtain ⟨w1, hw1⟩ : ∃ w1 : World, w1 = wr := ⟨_, rfl⟩
    subst hw1
    have hXr := hX.bel hbr
    have hpr := hXr.lt
    have hBr : Below p w w1 := bel_tr hB (by omega) hbr
    have c0 := hXr.cell 0; have c1 := hXr.cell 1; simp only [List.getElem?_cons_zero, List.getElem?_cons_succ] at c0 c1
    have hEo := hE.out
    have hfo := hfl'.out
    by_cases hlt : j < R.length
    · have hf1 : E < (flat R).length := by rw [hN'.out]; omega
      obtain ⟨b, off, rfl, hblt, x0⟩ := (hrW.bel hbr).int_at hf1
      have hg1 : (flat R)[E]'hf1 = R[j].2 := by
        have := (flat_at hlt).2
        rw [← hEo, List.getElem?_eq_getElem hf1] at this
        exact Option.some.inj this
      rw [hg1] at x0
      have hEN : E < N := by omega
      have iE : (E : Int) < (N : Int) := by omega
      have u1 : IntKind.i64.wrap ((E : Int) + 2) = (E : Int) + 2 := by simp (disch := omega) only [IntWalk.i64_in]
      have hok1 := hide (okR_take hlt)
      have hokb := hide (fun h => okR_at hlt h)
      have hE2 : Hid (E + 2 = 2 * (j + 1) + 1) := by show _ = _; omega
      clear hEo hfo hg1
      cases hob : outB R[j].2 1 200
      · have H1 : Hid (okR (R.take (j + 1)) = true) := by show _ = _; rw [hok1.out, hok.out, hob]; rfl
        generalize R[j].2 = m at x0 hob
        clear hok1 hokb
        go_wp2_with (first | (go_at_call 23; refine (HWI.out _ _ _ _).mono ?_; rintro e_ w_ ⟨rfl, rfl⟩; rw [hob]))
        first
          | exact ⟨⟨j + 1, E + 2, by go_num, hE2, by omega, hbr, H1⟩, by simp [intOf]; omega⟩
          | (go_roundw
             case rel => exact ⟨j + 1, E + 2, by go_num, hE2, by omega, hbr, H1⟩
             case measure => simp [intOf]; omega)
      · have H1 := hide (hokb.out hob)
        exact absurd hgood (by rw [H1.out]; decide)
    · obtain rfl : j = R.length := by omega
      have iE : ¬ (E : Int) < (N : Int) := by omega
      have iE2 : decide ((E : Int) < (N : Int)) = false := decide_eq_false iE
      have hokR : Hid (okR R = true) := by show _ = _; have := hok.out; rwa [List.take_of_length_le (Nat.le_refl _)] at this
      clear hEo hfo hok
      have hgR := hide (ok_counts hgood)
      have heR := expand_ok R hgood
      have hB2 := hBr
      have hX2 := hXr
      have hr2 := hrW.bel hbr
      have hp1 : p < w1.heap.size := hpr
      clear hgood hokR hE hbr hX hB hrW
      go_wp2
      clear c0 c1
      go_loopw [4, 6] (fun v x wr => ∃ j E M : Nat, ∃ X : List Int, x = .int .i64 (E : Int) ∧ Hid (E = 2 * j) ∧ j ≤ R.length ∧ Below w1.heap.size w1 wr ∧ Hid (X = expand (R.take j)) ∧ Hid (X.length = M) ∧ M ≤ 200 * j ∧ wr.ownsRow w1.heap.size 3 1 v M (ints X)) (fun _ x _ => N - (intOf x).toNat)
      case atStart => exact ⟨0, 0, 0, [], rfl, rfl, Nat.zero_le _, Below.refl _ _, rfl, rfl, by omega, World.ownsRow_nil _ _ _ _⟩
      case round =>
        obtain ⟨j, E, M, X, rfl, hE, hj, hb3, hXe, hXl, hM, hown⟩ := hrel
        have hX3 := hX2.bel hb3
        have hz3 := hb3.size
        have c0 := hX3.cell 0; have c1 := hX3.cell 1; simp only [List.getElem?_cons_zero, List.getElem?_cons_succ] at c0 c1
        have hEo := hE.out
        have hfo := hfl'.out
        by_cases hlt : j < R.length
        · have hf0 : E < (flat R).length := by rw [hN'.out]; omega
          have hf1 : E + 1 < (flat R).length := by rw [hN'.out]; omega
          obtain ⟨b, off, rfl, hblt, x0⟩ := hr2.int_at hf0
          obtain ⟨_, _, e', _, y0⟩ := hr2.int_at hf1
          injection e' with e'
          injection e' with eb eo
          subst eb eo
          have hg0 : (flat R)[E]'hf0 = R[j].1 := by
            have := (flat_at hlt).1
            rw [← hEo, List.getElem?_eq_getElem hf0] at this
            exact Option.some.inj this
          have hg1 : (flat R)[E + 1]'hf1 = R[j].2 := by
            have := (flat_at hlt).2
            rw [← hEo, List.getElem?_eq_getElem hf1] at this
            exact Option.some.inj this
          rw [hg0] at x0
          rw [hg1] at y0
          have hmb := hgR.out R[j] (List.getElem_mem hlt)
          have hET := hide (expand_take hlt)
          have hE2 : Hid (E + 2 = 2 * (j + 1)) := by show _ = _; omega
          have iE : (E : Int) < (N : Int) := by omega
          have u2 : IntKind.i64.wrap ((E : Int) + 2) = (E : Int) + 2 := by simp (disch := omega) only [IntWalk.i64_in]
          obtain ⟨E1, hE1⟩ : ∃ E1, E + 1 = E1 := ⟨_, rfl⟩
          have u1 : IntKind.i64.wrap ((E : Int) + 1) = (E1 : Int) := by rw [show (E : Int) + 1 = (E1 : Int) by omega]; simp (disch := omega) only [IntWalk.i64_in]
          have iE1 : (E1 : Int) < (N : Int) := by omega
          rw [hE1] at y0
          have hwM : M ≤ 40000 := by omega
          clear hEo hfo hg0 hg1 hE1 hf0 hf1
          generalize R[j] = rj at x0 y0 hmb hET
          obtain ⟨y, m⟩ := rj
          dsimp only at x0 y0 hmb hET
          obtain ⟨m, rfl⟩ : ∃ k : Nat, m = (k : Int) := ⟨m.toNat, by omega⟩
          obtain ⟨Av, cv, rfl⟩ := ownsRow_slice hown
          go_wp2
          clear c0 c1
          go_loopw [4, 7] (fun v x wr => ∃ k : Nat, k ≤ m ∧ x = .int .i64 (k : Int) ∧ Below w1.heap.size w1 wr ∧ wr.ownsRow w1.heap.size 3 1 v (M + k) (ints (X ++ List.replicate k y))) (fun _ x _ => m - (intOf x).toNat)
          case atStart => exact ⟨0, Nat.zero_le _, rfl, hb3, by simpa using hown⟩
          case round =>
            obtain ⟨k, hk, rfl, hb4, hown4⟩ := hrel
            have hX4 := hX2.bel hb4
            have x4 := (hb4.cell (p := ⟨b, off + E, none⟩) hblt).trans x0
            have y4 := (hb4.cell (p := ⟨b, off + E1, none⟩) hblt).trans y0
            have hz4 := hb4.size
            have c0 := hX4.cell 0; have c1 := hX4.cell 1; simp only [List.getElem?_cons_zero, List.getElem?_cons_succ] at c0 c1
            obtain ⟨A4, c4, rfl⟩ := ownsRow_slice hown4
            by_cases hkm : k < m
            · have ik : (k : Int) < (m : Int) := by omega
              go_wp2_with (at_builtin; refine wpList_append_own _ rfl _ _ 47 rfl w1.heap.size 3 i0 _ 1 8 Try.underlying47 hi iz0 iz1 iz2 rfl (by decide) _ _ _ rfl (hown4.alloc _) ⟨wr.heap.size, 0, none⟩ 1 1 [.int .i64 y] rfl rfl (World.news_of_block (heap_alloc_new wr _)) (by simp [Value.oneCell']) (by unfold maxLen; omega) (by omega) (by simp; omega) ?_; intro v' w8 hown8 hg8 _)
              have hb8 : Below w1.heap.size w1 w8 := (bel_alloc hb4 hz4 _).grown hg8 (by simp; omega) (fun j hj => by have := (hown4.lt j hj).1; omega)
              go_roundw
              case rel => exact ⟨k + 1, by omega, by go_num, hb8, by rw [List.replicate_succ', ← List.append_assoc, ints_append]; exact hown8⟩
              case measure => simp [intOf]; omega
            · obtain rfl : k = m := by omega
              have ik : ¬ (k : Int) < (k : Int) := by omega
              have hX1 : Hid (X ++ List.replicate k y = expand (R.take (j + 1))) := by show _ = _; rw [hET.out, hXe.out]; rfl
              have hL1 : Hid ((X ++ List.replicate k y).length = M + k) := by show _ = _; rw [List.length_append, List.length_replicate, hXl.out]
              go_wp2
              go_roundw
              case rel => exact ⟨j + 1, E + 2, M + k, _, by go_num, hE2, by omega, hb4, hX1, hL1, by omega, hown4⟩
              case measure => simp [intOf]; omega
        · obtain rfl : j = R.length := by omega
          have iE : ¬ (E : Int) < (N : Int) := by omega
          have hXR := hXe
          rw [List.take_of_length_le (Nat.le_refl _)] at hXR
          clear hXe hEo hfo hgR
          obtain ⟨Av, cv, rfl⟩ := ownsRow_slice hown
          obtain ⟨w2, hw2⟩ : ∃ w2 : World, w2 = wr := ⟨_, rfl⟩
          subst hw2
          have hBv : Below p w w2 := bel_tr hB2 (by omega) hb3

          have hML : 200 < M := by have h1 := hXl.out; rw [hXR.out] at h1; omega
          have e3 : decide ((200 : Int) < (M : Int)) = true := decide_eq_true (by omega)
          have e4 : (200 : Int) < (M : Int) := by omega
          go_wp2
          go_ret2
          exact ⟨rfl, by first | exact hBv | (rw [hp]; exact hBv)⟩

set_option maxHeartbeats 4000000 in
theorem rU2 (R : List G) (X0 : List Int) (e : Int) (A : Option Addr) (c : Nat) (w : World) (hr : Rd w A (ints (flat R))) (hm : (flat R).length ≤ 400) (hgood : okR R = true) (hlong : (expand R).length ≤ 200) (hse : serE (expand R) = e) (hXz : X0 = if e = 0 then expand R else []) :
    Calls Try.prog 31 #[.agg #[.int .i64 2, .slice A (flat R).length c]] w fun r w' => (∃ A' c', r = .returned (.tuple #[.slice A' X0.length c', .int .i64 e]) ∧ Rd w' A' (ints X0)) ∧ Below w.heap.size w w' := by
  replace hse := hide hse
  replace hXz := hide hXz
  obtain ⟨i0, hi, iz0, iz1, iz2⟩ := info_parts Try.infoN
  have hfl := flat_length R
  obtain ⟨N, hN⟩ : ∃ N, (flat R).length = N := ⟨_, rfl⟩
  rw [hN] at hm hfl ⊢
  have hRl : R.length ≤ 200 := by omega
  have hN' := hide hN
  have hfl' := hide hfl
  have hpar : ((N : Int).tmod 2 != 0) = false := by rw [hfl]; simp
  have hpar2 : ((N : Int) % 2 != 0) = false := by rw [hfl]; simp
  have e1 : decide ((400 : Int) < (N : Int)) = false := decide_eq_false (by omega)
  have e2 : ¬ (400 : Int) < (N : Int) := by omega
  have hw : outB 2 0 2 = false := by decide
  clear hN hfl
  obtain ⟨p, hp⟩ : ∃ p, w.heap.size = p := ⟨_, rfl⟩
  obtain ⟨W, hW⟩ : ∃ W, w.alloc (.cells #[.int .i64 2, .slice A N c] 54) = W := ⟨_, rfl⟩
  have hX : Blk W p 54 [.int .i64 2, .slice A N c] := by rw [← hW, ← hp]; exact Blk.new w _ [_, _]
  have hB : Below p w W := by rw [← hW, ← hp]; exact alloc_bel _ _
  have hrW := hr.bel (by rw [hp]; exact hB)
  have hpW := hX.lt
  have HW := hide hW
  clear hW hr
  have c0 := hX.cell 0; have c1 := hX.cell 1; simp only [List.getElem?_cons_zero, List.getElem?_cons_succ] at c0 c1
  have HWI := hide (fun a b c W => within_c a b c W)
  go_enter Try.func31, Try.ntmps31
  go_upto_region 1 with fail
  try rw [hp]
  rw [HW.out]
  go_upto_region 6 with (first | (go_at_call 23; refine (HWI.out _ _ _ _).mono ?_; rintro e_ w_ ⟨rfl, rfl⟩; rw [hw]))
  clear hw
  go_upto_region 10 with fail
  go_wp2
  clear hpar hpar2 e1 e2 c0 c1
  go_loopw [5] (fun x wr => ∃ j E : Nat, x = .int .i64 (E : Int) ∧ Hid (E = 2 * j + 1) ∧ j ≤ R.length ∧ Below W.heap.size W wr ∧ Hid (okR (R.take j) = true)) (fun x _ => N + 1 - (intOf x).toNat)
  case atStart => exact ⟨0, 1, rfl, rfl, Nat.zero_le _, Below.refl _ _, rfl⟩
  case round =>
    obtain ⟨j, E, rfl, hE, hj, hbr, hok⟩ := hrel
    obtain ⟨w1, hw1⟩ : ∃ w1 : World, w1 = wr := ⟨_, rfl⟩
    subst hw1
    have hXr := hX.bel hbr
    have hpr := hXr.lt
    have hBr : Below p w w1 := bel_tr hB (by omega) hbr
    have c0 := hXr.cell 0; have c1 := hXr.cell 1; simp only [List.getElem?_cons_zero, List.getElem?_cons_succ] at c0 c1
    have hEo := hE.out
    have hfo := hfl'.out
    by_cases hlt : j < R.length
    · have hf1 : E < (flat R).length := by rw [hN'.out]; omega
      obtain ⟨b, off, rfl, hblt, x0⟩ := (hrW.bel hbr).int_at hf1
      have hg1 : (flat R)[E]'hf1 = R[j].2 := by
        have := (flat_at hlt).2
        rw [← hEo, List.getElem?_eq_getElem hf1] at this
        exact Option.some.inj this
      rw [hg1] at x0
      have hEN : E < N := by omega
      have iE : (E : Int) < (N : Int) := by omega
      have u1 : IntKind.i64.wrap ((E : Int) + 2) = (E : Int) + 2 := by simp (disch := omega) only [IntWalk.i64_in]
      have hok1 := hide (okR_take hlt)
      have hokb := hide (fun h => okR_at hlt h)
      have hE2 : Hid (E + 2 = 2 * (j + 1) + 1) := by show _ = _; omega
      clear hEo hfo hg1
      cases hob : outB R[j].2 1 200
      · have H1 : Hid (okR (R.take (j + 1)) = true) := by show _ = _; rw [hok1.out, hok.out, hob]; rfl
        generalize R[j].2 = m at x0 hob
        clear hok1 hokb
        go_wp2_with (first | (go_at_call 23; refine (HWI.out _ _ _ _).mono ?_; rintro e_ w_ ⟨rfl, rfl⟩; rw [hob]))
        first
          | exact ⟨⟨j + 1, E + 2, by go_num, hE2, by omega, hbr, H1⟩, by simp [intOf]; omega⟩
          | (go_roundw
             case rel => exact ⟨j + 1, E + 2, by go_num, hE2, by omega, hbr, H1⟩
             case measure => simp [intOf]; omega)
      · have H1 := hide (hokb.out hob)
        exact absurd hgood (by rw [H1.out]; decide)
    · obtain rfl : j = R.length := by omega
      have iE : ¬ (E : Int) < (N : Int) := by omega
      have iE2 : decide ((E : Int) < (N : Int)) = false := decide_eq_false iE
      have hokR : Hid (okR R = true) := by show _ = _; have := hok.out; rwa [List.take_of_length_le (Nat.le_refl _)] at this
      clear hEo hfo hok
      have hgR := hide (ok_counts hgood)
      have heR := expand_ok R hgood
      have hB2 := hBr
      have hX2 := hXr
      have hr2 := hrW.bel hbr
      have hp1 : p < w1.heap.size := hpr
      clear hgood hokR hE hbr hX hB hrW
      go_wp2
      clear c0 c1
      go_loopw [4, 6] (fun v x wr => ∃ j E M : Nat, ∃ X : List Int, x = .int .i64 (E : Int) ∧ Hid (E = 2 * j) ∧ j ≤ R.length ∧ Below w1.heap.size w1 wr ∧ Hid (X = expand (R.take j)) ∧ Hid (X.length = M) ∧ M ≤ 200 * j ∧ wr.ownsRow w1.heap.size 3 1 v M (ints X)) (fun _ x _ => N - (intOf x).toNat)
      case atStart => exact ⟨0, 0, 0, [], rfl, rfl, Nat.zero_le _, Below.refl _ _, rfl, rfl, by omega, World.ownsRow_nil _ _ _ _⟩
      case round =>
        obtain ⟨j, E, M, X, rfl, hE, hj, hb3, hXe, hXl, hM, hown⟩ := hrel
        have hX3 := hX2.bel hb3
        have hz3 := hb3.size
        have c0 := hX3.cell 0; have c1 := hX3.cell 1; simp only [List.getElem?_cons_zero, List.getElem?_cons_succ] at c0 c1
        have hEo := hE.out
        have hfo := hfl'.out
        by_cases hlt : j < R.length
        · have hf0 : E < (flat R).length := by rw [hN'.out]; omega
          have hf1 : E + 1 < (flat R).length := by rw [hN'.out]; omega
          obtain ⟨b, off, rfl, hblt, x0⟩ := hr2.int_at hf0
          obtain ⟨_, _, e', _, y0⟩ := hr2.int_at hf1
          injection e' with e'
          injection e' with eb eo
          subst eb eo
          have hg0 : (flat R)[E]'hf0 = R[j].1 := by
            have := (flat_at hlt).1
            rw [← hEo, List.getElem?_eq_getElem hf0] at this
            exact Option.some.inj this
          have hg1 : (flat R)[E + 1]'hf1 = R[j].2 := by
            have := (flat_at hlt).2
            rw [← hEo, List.getElem?_eq_getElem hf1] at this
            exact Option.some.inj this
          rw [hg0] at x0
          rw [hg1] at y0
          have hmb := hgR.out R[j] (List.getElem_mem hlt)
          have hET := hide (expand_take hlt)
          have hE2 : Hid (E + 2 = 2 * (j + 1)) := by show _ = _; omega
          have iE : (E : Int) < (N : Int) := by omega
          have u2 : IntKind.i64.wrap ((E : Int) + 2) = (E : Int) + 2 := by simp (disch := omega) only [IntWalk.i64_in]
          obtain ⟨E1, hE1⟩ : ∃ E1, E + 1 = E1 := ⟨_, rfl⟩
          have u1 : IntKind.i64.wrap ((E : Int) + 1) = (E1 : Int) := by rw [show (E : Int) + 1 = (E1 : Int) by omega]; simp (disch := omega) only [IntWalk.i64_in]
          have iE1 : (E1 : Int) < (N : Int) := by omega
          rw [hE1] at y0
          have hwM : M ≤ 40000 := by omega
          clear hEo hfo hg0 hg1 hE1 hf0 hf1
          generalize R[j] = rj at x0 y0 hmb hET
          obtain ⟨y, m⟩ := rj
          dsimp only at x0 y0 hmb hET
          obtain ⟨m, rfl⟩ : ∃ k : Nat, m = (k : Int) := ⟨m.toNat, by omega⟩
          obtain ⟨Av, cv, rfl⟩ := ownsRow_slice hown
          go_wp2
          clear c0 c1
          go_loopw [4, 7] (fun v x wr => ∃ k : Nat, k ≤ m ∧ x = .int .i64 (k : Int) ∧ Below w1.heap.size w1 wr ∧ wr.ownsRow w1.heap.size 3 1 v (M + k) (ints (X ++ List.replicate k y))) (fun _ x _ => m - (intOf x).toNat)
          case atStart => exact ⟨0, Nat.zero_le _, rfl, hb3, by simpa using hown⟩
          case round =>
            obtain ⟨k, hk, rfl, hb4, hown4⟩ := hrel
            have hX4 := hX2.bel hb4
            have x4 := (hb4.cell (p := ⟨b, off + E, none⟩) hblt).trans x0
            have y4 := (hb4.cell (p := ⟨b, off + E1, none⟩) hblt).trans y0
            have hz4 := hb4.size
            have c0 := hX4.cell 0; have c1 := hX4.cell 1; simp only [List.getElem?_cons_zero, List.getElem?_cons_succ] at c0 c1
            obtain ⟨A4, c4, rfl⟩ := ownsRow_slice hown4
            by_cases hkm : k < m
            · have ik : (k : Int) < (m : Int) := by omega
              go_wp2_with (at_builtin; refine wpList_append_own _ rfl _ _ 47 rfl w1.heap.size 3 i0 _ 1 8 Try.underlying47 hi iz0 iz1 iz2 rfl (by decide) _ _ _ rfl (hown4.alloc _) ⟨wr.heap.size, 0, none⟩ 1 1 [.int .i64 y] rfl rfl (World.news_of_block (heap_alloc_new wr _)) (by simp [Value.oneCell']) (by unfold maxLen; omega) (by omega) (by simp; omega) ?_; intro v' w8 hown8 hg8 _)
              have hb8 : Below w1.heap.size w1 w8 := (bel_alloc hb4 hz4 _).grown hg8 (by simp; omega) (fun j hj => by have := (hown4.lt j hj).1; omega)
              go_roundw
              case rel => exact ⟨k + 1, by omega, by go_num, hb8, by rw [List.replicate_succ', ← List.append_assoc, ints_append]; exact hown8⟩
              case measure => simp [intOf]; omega
            · obtain rfl : k = m := by omega
              have ik : ¬ (k : Int) < (k : Int) := by omega
              have hX1 : Hid (X ++ List.replicate k y = expand (R.take (j + 1))) := by show _ = _; rw [hET.out, hXe.out]; rfl
              have hL1 : Hid ((X ++ List.replicate k y).length = M + k) := by show _ = _; rw [List.length_append, List.length_replicate, hXl.out]
              go_wp2
              go_roundw
              case rel => exact ⟨j + 1, E + 2, M + k, _, by go_num, hE2, by omega, hb4, hX1, hL1, by omega, hown4⟩
              case measure => simp [intOf]; omega
        · obtain rfl : j = R.length := by omega
          have iE : ¬ (E : Int) < (N : Int) := by omega
          have hXR := hXe
          rw [List.take_of_length_le (Nat.le_refl _)] at hXR
          clear hXe hEo hfo hgR
          obtain ⟨Av, cv, rfl⟩ := ownsRow_slice hown
          obtain ⟨w2, hw2⟩ : ∃ w2 : World, w2 = wr := ⟨_, rfl⟩
          subst hw2
          have hBv : Below p w w2 := bel_tr hB2 (by omega) hb3

          have rX := Rd.of_own hown
          have hML : M ≤ 200 := by have h1 := hXl.out; rw [hXR.out] at h1; omega
          have e3 : decide ((200 : Int) < (M : Int)) = false := decide_eq_false (by omega)
          have e4 : ¬ (200 : Int) < (M : Int) := by omega
          have hse' : Hid (serE X = e) := by show _ = _; rw [hXR.out]; exact hse.out
          have hXz' : Hid (X0 = if e = 0 then X else []) := by show _ = _; rw [hXR.out]; exact hXz.out
          clear hse hXz hXR hM hown
          go_wp2
          clear c0 c1 iE
          go_loopw [8] (fun x wr => ∃ k : Nat, k ≤ M ∧ x = .int .i64 k ∧ Below w2.heap.size w2 wr ∧ Hid (∀ j (h : j < X.length), j < k → outB X[j] (-1000000000) 1000000000 = false)) (fun x _ => M - (intOf x).toNat)
          case atStart => exact ⟨0, Nat.zero_le _, rfl, Below.refl _ _, fun _ _ h => by omega⟩
          case round =>
            obtain ⟨k, hk, rfl, hbr, h0⟩ := hrel
            have hXr := hX3.bel hbr
            have hpr := hXr.lt
            have hBe : Below p w wr := bel_tr hBv (by have := hX3.lt; omega) hbr
            have c0 := hXr.cell 0; have c1 := hXr.cell 1; simp only [List.getElem?_cons_zero, List.getElem?_cons_succ] at c0 c1
            by_cases hlt : k < M
            · have iL : (k : Int) < (M : Int) := by omega
              have hlt' : k < X.length := by have := hXl.out; omega
              obtain ⟨b, off, rfl, hblt, x0⟩ := (rX.bel hbr).int_at hlt'
              cases hob : outB X[k] (-1000000000) 1000000000
              · have H1 : Hid (∀ j (h : j < X.length), j < k + 1 → outB X[j] (-1000000000) 1000000000 = false) := fun j h hj => by
                  by_cases e : j = k
                  · subst e; exact hob
                  · exact h0.out j h (by omega)
                generalize X[k] = x at x0 hob
                go_wp2_with (first | (go_at_call 23; refine (HWI.out _ _ _ _).mono ?_; rintro e_ w_ ⟨rfl, rfl⟩; rw [hob]))
                first
                  | exact ⟨⟨k + 1, by omega, by go_num, hbr, H1⟩, by simp [intOf]; omega⟩
                  | (go_roundw
                     case rel => exact ⟨k + 1, by omega, by go_num, hbr, H1⟩
                     case measure => simp [intOf]; omega)
              · have H1 := hide (serE_some (by have := hXl.out; omega) hlt' h0.out hob)
                obtain ⟨hXn, hen⟩ : X0 = [] ∧ e = 2 := by have h1 := hse'.out; rw [H1.out] at h1; subst h1; exact ⟨by rw [hXz'.out, if_neg (by decide)], rfl⟩
                clear hse' hXz' H1
                subst hXn hen
                generalize X[k] = x at x0 hob
                go_wp2_with (first | (go_at_call 23; refine (HWI.out _ _ _ _).mono ?_; rintro e_ w_ ⟨rfl, rfl⟩; rw [hob]))
                go_ret2
                exact ⟨by first | exact ⟨none, ⟨0, rfl⟩, Rd.nil _ _⟩ | exact ⟨none, 0, rfl, Rd.nil _ _⟩, by first | exact hBe | (rw [hp]; exact hBe)⟩
            · obtain rfl : k = M := by omega
              have H1 := hide (serE_none (l := X) (by have := hXl.out; omega) (fun j h => h0.out j h (by have := hXl.out; omega)))
              obtain ⟨hXn, hen⟩ : X0 = X ∧ e = 0 := by have h1 := hse'.out; rw [H1.out] at h1; subst h1; exact ⟨by rw [hXz'.out, if_pos rfl], rfl⟩
              have hMM := hXl.out
              clear hse' hXz' H1 hXl h0
              subst hXn hen hMM
              go_wp2
              go_ret2
              exact ⟨by first | exact ⟨Av, ⟨cv, rfl⟩, rX.bel hbr⟩ | exact ⟨Av, cv, rfl, rX.bel hbr⟩, by first | exact hBe | (rw [hp]; exact hBe)⟩

end Go.Proofs.Ytmdmkmfemhkfgaa

/- Contracts: the reference's Unpacked, way 1. -/
set_option linter.unusedSimpArgs false
set_option linter.unusedVariables false
namespace Go.Proofs.Ytmdmkmfemhkfgaa
open Go.RowKit
set_option maxRecDepth 100000

/-- The sums while they are laid: k of them, b the last. -/
structure SumI (X D : List Int) (k : Nat) (b : Int) : Prop where
  len : D.length = k
  sum : sumF 0 X = (sumF b (X.drop k)).map (D ++ ·)
  low : -1000000000 ≤ b
  high : b ≤ 1000000000
  zero : k = 0 → b = 0
  last : 1 ≤ k → D[k - 1]? = some b
theorem SumI.start (X : List Int) : SumI X [] 0 0 := ⟨rfl, by simp, by omega, by omega, fun _ => rfl, fun h => by omega⟩
theorem SumI.bad {X D : List Int} {k : Nat} {b : Int} (h : SumI X D k b) (hk : k < X.length) (ho : outB X[k] (-1000000000 - b) (1000000000 - b) = true) : sumF 0 X = none := by
  rw [h.sum, sumF_drop b X k hk, if_pos ho]; rfl
theorem SumI.next {X D : List Int} {k : Nat} {b : Int} (h : SumI X D k b) (hk : k < X.length) (ho : outB X[k] (-1000000000 - b) (1000000000 - b) = false) : SumI X (D ++ [b + X[k]]) (k + 1) (b + X[k]) := by
  have h1 := outB_false.1 ho
  refine ⟨by simp [h.len], ?_, by omega, by omega, fun h => by omega, fun _ => ?_⟩
  · rw [h.sum, sumF_drop b X k hk, if_neg (by rw [ho]; decide), Option.map_map]
    congr 1
    funext o
    simp
  · rw [Nat.add_sub_cancel, List.getElem?_append_right (by rw [h.len]; omega), h.len, Nat.sub_self]; rfl
theorem SumI.done {X D : List Int} {k : Nat} {b : Int} (h : SumI X D k b) (hk : k = X.length) : sumF 0 X = some D := by
  rw [h.sum, hk, List.drop_length]; simp [sumF]
theorem SumI.row {X D : List Int} {k : Nat} {b : Int} (h : SumI X D k b) (hk : k < X.length) (y : Int) : (ints (D ++ X.drop k)).set k (.int .i64 y) = ints ((D ++ [y]) ++ X.drop (k + 1)) := by
  rw [show (ints (D ++ X.drop k)).set k (.int .i64 y) = ints ((D ++ X.drop k).set k y) by simp [ints], List.drop_eq_getElem_cons hk, List.set_append_right _ _ (by rw [h.len]; omega), h.len, Nat.sub_self, List.set_cons_zero, List.append_assoc, List.singleton_append]
theorem SumI.put {X D : List Int} {k : Nat} {b : Int} (h : SumI X D k b) (hk : k < X.length) (y : Int) : (ints ((D ++ [y]) ++ X.drop (k + 1)))[k]? = some (.int .i64 y) := by
  rw [ints_append, ints_append, List.append_assoc, List.getElem?_append_right (by rw [ints_length, h.len]; omega), ints_length, h.len, Nat.sub_self]; rfl
theorem SumI.same {X D : List Int} {k : Nat} {b : Int} (h : SumI X D k b) (hk : k < X.length) (h0 : k = 0) : D ++ X.drop k = (D ++ [b + X[k]]) ++ X.drop (k + 1) := by
  have hb := h.zero h0
  have hD : D = [] := List.length_eq_zero_iff.1 (by rw [h.len, h0])
  subst h0 hb hD
  rw [List.drop_eq_getElem_cons hk]; simp
theorem SumI.at {X D : List Int} {k : Nat} {b : Int} (h : SumI X D k b) (hk : k < X.length) : (ints (D ++ X.drop k))[k]? = some (.int .i64 X[k]) := by
  rw [List.drop_eq_getElem_cons hk, ints_append, List.getElem?_append_right (by rw [ints_length, h.len]; omega), ints_length, h.len, Nat.sub_self]; rfl
theorem SumI.before {X D : List Int} {k : Nat} {b : Int} (h : SumI X D k b) (hk : 1 ≤ k) : (ints (D ++ X.drop k))[k - 1]? = some (.int .i64 b) := by
  have h1 := h.last hk
  rw [ints_append, List.getElem?_append_left (by rw [ints_length, h.len]; omega)]
  simp [ints, h1]

set_option maxHeartbeats 4000000 in
theorem rU1 (R : List G) (X0 : List Int) (e : Int) (A : Option Addr) (c : Nat) (w : World) (hr : Rd w A (ints (flat R))) (hm : (flat R).length ≤ 400) (hgood : okR R = true) (hlong : (expand R).length ≤ 200) (hsu : (match sumF 0 (expand R) with | none => (([] : List Int), (2 : Int)) | some o => (o, 0)) = (X0, e)) :
    Calls Try.prog 31 #[.agg #[.int .i64 1, .slice A (flat R).length c]] w fun r w' => (∃ A' c', r = .returned (.tuple #[.slice A' X0.length c', .int .i64 e]) ∧ Rd w' A' (ints X0)) ∧ Below w.heap.size w w' := by
  replace hsu := hide hsu
  obtain ⟨i0, hi, iz0, iz1, iz2⟩ := info_parts Try.infoN
  have hfl := flat_length R
  obtain ⟨N, hN⟩ : ∃ N, (flat R).length = N := ⟨_, rfl⟩
  rw [hN] at hm hfl ⊢
  have hRl : R.length ≤ 200 := by omega
  have hN' := hide hN
  have hfl' := hide hfl
  have hpar : ((N : Int).tmod 2 != 0) = false := by rw [hfl]; simp
  have hpar2 : ((N : Int) % 2 != 0) = false := by rw [hfl]; simp
  have e1 : decide ((400 : Int) < (N : Int)) = false := decide_eq_false (by omega)
  have e2 : ¬ (400 : Int) < (N : Int) := by omega
  have hw : outB 1 0 2 = false := by decide
  clear hN hfl
  obtain ⟨p, hp⟩ : ∃ p, w.heap.size = p := ⟨_, rfl⟩
  obtain ⟨W, hW⟩ : ∃ W, w.alloc (.cells #[.int .i64 1, .slice A N c] 54) = W := ⟨_, rfl⟩
  have hX : Blk W p 54 [.int .i64 1, .slice A N c] := by rw [← hW, ← hp]; exact Blk.new w _ [_, _]
  have hB : Below p w W := by rw [← hW, ← hp]; exact alloc_bel _ _
  have hrW := hr.bel (by rw [hp]; exact hB)
  have hpW := hX.lt
  have HW := hide hW
  clear hW hr
  have c0 := hX.cell 0; have c1 := hX.cell 1; simp only [List.getElem?_cons_zero, List.getElem?_cons_succ] at c0 c1
  have HWI := hide (fun a b c W => within_c a b c W)
  go_enter Try.func31, Try.ntmps31
  go_upto_region 1 with fail
  try rw [hp]
  rw [HW.out]
  go_upto_region 6 with (first | (go_at_call 23; refine (HWI.out _ _ _ _).mono ?_; rintro e_ w_ ⟨rfl, rfl⟩; rw [hw]))
  clear hw
  go_upto_region 10 with fail
  go_wp2
  clear hpar hpar2 e1 e2 c0 c1
  go_loopw [5] (fun x wr => ∃ j E : Nat, x = .int .i64 (E : Int) ∧ Hid (E = 2 * j + 1) ∧ j ≤ R.length ∧ Below W.heap.size W wr ∧ Hid (okR (R.take j) = true)) (fun x _ => N + 1 - (intOf x).toNat)
  case atStart => exact ⟨0, 1, rfl, rfl, Nat.zero_le _, Below.refl _ _, rfl⟩
  case round =>
    obtain ⟨j, E, rfl, hE, hj, hbr, hok⟩ := hrel
    obtain ⟨w1, hw1⟩ : ∃ w1 : World, w1 = wr := ⟨_, rfl⟩
    subst hw1
    have hXr := hX.bel hbr
    have hpr := hXr.lt
    have hBr : Below p w w1 := bel_tr hB (by omega) hbr
    have c0 := hXr.cell 0; have c1 := hXr.cell 1; simp only [List.getElem?_cons_zero, List.getElem?_cons_succ] at c0 c1
    have hEo := hE.out
    have hfo := hfl'.out
    by_cases hlt : j < R.length
    · have hf1 : E < (flat R).length := by rw [hN'.out]; omega
      obtain ⟨b, off, rfl, hblt, x0⟩ := (hrW.bel hbr).int_at hf1
      have hg1 : (flat R)[E]'hf1 = R[j].2 := by
        have := (flat_at hlt).2
        rw [← hEo, List.getElem?_eq_getElem hf1] at this
        exact Option.some.inj this
      rw [hg1] at x0
      have hEN : E < N := by omega
      have iE : (E : Int) < (N : Int) := by omega
      have u1 : IntKind.i64.wrap ((E : Int) + 2) = (E : Int) + 2 := by simp (disch := omega) only [IntWalk.i64_in]
      have hok1 := hide (okR_take hlt)
      have hokb := hide (fun h => okR_at hlt h)
      have hE2 : Hid (E + 2 = 2 * (j + 1) + 1) := by show _ = _; omega
      clear hEo hfo hg1
      cases hob : outB R[j].2 1 200
      · have H1 : Hid (okR (R.take (j + 1)) = true) := by show _ = _; rw [hok1.out, hok.out, hob]; rfl
        generalize R[j].2 = m at x0 hob
        clear hok1 hokb
        go_wp2_with (first | (go_at_call 23; refine (HWI.out _ _ _ _).mono ?_; rintro e_ w_ ⟨rfl, rfl⟩; rw [hob]))
        first
          | exact ⟨⟨j + 1, E + 2, by go_num, hE2, by omega, hbr, H1⟩, by simp [intOf]; omega⟩
          | (go_roundw
             case rel => exact ⟨j + 1, E + 2, by go_num, hE2, by omega, hbr, H1⟩
             case measure => simp [intOf]; omega)
      · have H1 := hide (hokb.out hob)
        exact absurd hgood (by rw [H1.out]; decide)
    · obtain rfl : j = R.length := by omega
      have iE : ¬ (E : Int) < (N : Int) := by omega
      have iE2 : decide ((E : Int) < (N : Int)) = false := decide_eq_false iE
      have hokR : Hid (okR R = true) := by show _ = _; have := hok.out; rwa [List.take_of_length_le (Nat.le_refl _)] at this
      clear hEo hfo hok
      have hgR := hide (ok_counts hgood)
      have heR := expand_ok R hgood
      have hB2 := hBr
      have hX2 := hXr
      have hr2 := hrW.bel hbr
      have hp1 : p < w1.heap.size := hpr
      clear hgood hokR hE hbr hX hB hrW
      go_wp2
      clear c0 c1
      go_loopw [4, 6] (fun v x wr => ∃ j E M : Nat, ∃ X : List Int, x = .int .i64 (E : Int) ∧ Hid (E = 2 * j) ∧ j ≤ R.length ∧ Below w1.heap.size w1 wr ∧ Hid (X = expand (R.take j)) ∧ Hid (X.length = M) ∧ M ≤ 200 * j ∧ wr.ownsRow w1.heap.size 3 1 v M (ints X)) (fun _ x _ => N - (intOf x).toNat)
      case atStart => exact ⟨0, 0, 0, [], rfl, rfl, Nat.zero_le _, Below.refl _ _, rfl, rfl, by omega, World.ownsRow_nil _ _ _ _⟩
      case round =>
        obtain ⟨j, E, M, X, rfl, hE, hj, hb3, hXe, hXl, hM, hown⟩ := hrel
        have hX3 := hX2.bel hb3
        have hz3 := hb3.size
        have c0 := hX3.cell 0; have c1 := hX3.cell 1; simp only [List.getElem?_cons_zero, List.getElem?_cons_succ] at c0 c1
        have hEo := hE.out
        have hfo := hfl'.out
        by_cases hlt : j < R.length
        · have hf0 : E < (flat R).length := by rw [hN'.out]; omega
          have hf1 : E + 1 < (flat R).length := by rw [hN'.out]; omega
          obtain ⟨b, off, rfl, hblt, x0⟩ := hr2.int_at hf0
          obtain ⟨_, _, e', _, y0⟩ := hr2.int_at hf1
          injection e' with e'
          injection e' with eb eo
          subst eb eo
          have hg0 : (flat R)[E]'hf0 = R[j].1 := by
            have := (flat_at hlt).1
            rw [← hEo, List.getElem?_eq_getElem hf0] at this
            exact Option.some.inj this
          have hg1 : (flat R)[E + 1]'hf1 = R[j].2 := by
            have := (flat_at hlt).2
            rw [← hEo, List.getElem?_eq_getElem hf1] at this
            exact Option.some.inj this
          rw [hg0] at x0
          rw [hg1] at y0
          have hmb := hgR.out R[j] (List.getElem_mem hlt)
          have hET := hide (expand_take hlt)
          have hE2 : Hid (E + 2 = 2 * (j + 1)) := by show _ = _; omega
          have iE : (E : Int) < (N : Int) := by omega
          have u2 : IntKind.i64.wrap ((E : Int) + 2) = (E : Int) + 2 := by simp (disch := omega) only [IntWalk.i64_in]
          obtain ⟨E1, hE1⟩ : ∃ E1, E + 1 = E1 := ⟨_, rfl⟩
          have u1 : IntKind.i64.wrap ((E : Int) + 1) = (E1 : Int) := by rw [show (E : Int) + 1 = (E1 : Int) by omega]; simp (disch := omega) only [IntWalk.i64_in]
          have iE1 : (E1 : Int) < (N : Int) := by omega
          rw [hE1] at y0
          have hwM : M ≤ 40000 := by omega
          clear hEo hfo hg0 hg1 hE1 hf0 hf1
          generalize R[j] = rj at x0 y0 hmb hET
          obtain ⟨y, m⟩ := rj
          dsimp only at x0 y0 hmb hET
          obtain ⟨m, rfl⟩ : ∃ k : Nat, m = (k : Int) := ⟨m.toNat, by omega⟩
          obtain ⟨Av, cv, rfl⟩ := ownsRow_slice hown
          go_wp2
          clear c0 c1
          go_loopw [4, 7] (fun v x wr => ∃ k : Nat, k ≤ m ∧ x = .int .i64 (k : Int) ∧ Below w1.heap.size w1 wr ∧ wr.ownsRow w1.heap.size 3 1 v (M + k) (ints (X ++ List.replicate k y))) (fun _ x _ => m - (intOf x).toNat)
          case atStart => exact ⟨0, Nat.zero_le _, rfl, hb3, by simpa using hown⟩
          case round =>
            obtain ⟨k, hk, rfl, hb4, hown4⟩ := hrel
            have hX4 := hX2.bel hb4
            have x4 := (hb4.cell (p := ⟨b, off + E, none⟩) hblt).trans x0
            have y4 := (hb4.cell (p := ⟨b, off + E1, none⟩) hblt).trans y0
            have hz4 := hb4.size
            have c0 := hX4.cell 0; have c1 := hX4.cell 1; simp only [List.getElem?_cons_zero, List.getElem?_cons_succ] at c0 c1
            obtain ⟨A4, c4, rfl⟩ := ownsRow_slice hown4
            by_cases hkm : k < m
            · have ik : (k : Int) < (m : Int) := by omega
              go_wp2_with (at_builtin; refine wpList_append_own _ rfl _ _ 47 rfl w1.heap.size 3 i0 _ 1 8 Try.underlying47 hi iz0 iz1 iz2 rfl (by decide) _ _ _ rfl (hown4.alloc _) ⟨wr.heap.size, 0, none⟩ 1 1 [.int .i64 y] rfl rfl (World.news_of_block (heap_alloc_new wr _)) (by simp [Value.oneCell']) (by unfold maxLen; omega) (by omega) (by simp; omega) ?_; intro v' w8 hown8 hg8 _)
              have hb8 : Below w1.heap.size w1 w8 := (bel_alloc hb4 hz4 _).grown hg8 (by simp; omega) (fun j hj => by have := (hown4.lt j hj).1; omega)
              go_roundw
              case rel => exact ⟨k + 1, by omega, by go_num, hb8, by rw [List.replicate_succ', ← List.append_assoc, ints_append]; exact hown8⟩
              case measure => simp [intOf]; omega
            · obtain rfl : k = m := by omega
              have ik : ¬ (k : Int) < (k : Int) := by omega
              have hX1 : Hid (X ++ List.replicate k y = expand (R.take (j + 1))) := by show _ = _; rw [hET.out, hXe.out]; rfl
              have hL1 : Hid ((X ++ List.replicate k y).length = M + k) := by show _ = _; rw [List.length_append, List.length_replicate, hXl.out]
              go_wp2
              go_roundw
              case rel => exact ⟨j + 1, E + 2, M + k, _, by go_num, hE2, by omega, hb4, hX1, hL1, by omega, hown4⟩
              case measure => simp [intOf]; omega
        · obtain rfl : j = R.length := by omega
          have iE : ¬ (E : Int) < (N : Int) := by omega
          have hXR := hXe
          rw [List.take_of_length_le (Nat.le_refl _)] at hXR
          clear hXe hEo hfo hgR
          obtain ⟨Av, cv, rfl⟩ := ownsRow_slice hown
          obtain ⟨w2, hw2⟩ : ∃ w2 : World, w2 = wr := ⟨_, rfl⟩
          subst hw2
          have hBv : Below p w w2 := bel_tr hB2 (by omega) hb3

          have hML : M ≤ 200 := by have h1 := hXl.out; rw [hXR.out] at h1; omega
          have e3 : decide ((200 : Int) < (M : Int)) = false := decide_eq_false (by omega)
          have e4 : ¬ (200 : Int) < (M : Int) := by omega
          have hsu' : Hid ((match sumF 0 X with | none => (([] : List Int), (2 : Int)) | some o => (o, 0)) = (X0, e)) := by show _ = _; rw [hXR.out]; exact hsu.out
          have hown0 := hown
          clear hsu hXR hM
          go_wp2
          clear c0 c1 iE hown
          go_loopw [8] (fun x wr => ∃ k : Nat, ∃ D : List Int, ∃ s : Int, k ≤ M ∧ x = .int .i64 k ∧ Below w1.heap.size w1 wr ∧ Hid (SumI X D k s) ∧ wr.ownsRow w1.heap.size 3 1 (.slice Av M cv) M (ints (D ++ X.drop k))) (fun x _ => M - (intOf x).toNat)
          case atStart => exact ⟨0, [], 0, Nat.zero_le _, rfl, hb3, SumI.start X, by simpa using hown0⟩
          case round =>
            obtain ⟨k, D, s, hk, rfl, hbr, hS, hown⟩ := hrel
            clear hown0
            have hXr := hX2.bel hbr
            have hpr := hXr.lt
            have hBe : Below p w wr := bel_tr hB2 (by omega) hbr
            have c0 := hXr.cell 0; have c1 := hXr.cell 1; simp only [List.getElem?_cons_zero, List.getElem?_cons_succ] at c0 c1
            by_cases hlt : k < M
            · have iL : (k : Int) < (M : Int) := by omega
              have hlt' : k < X.length := by have := hXl.out; omega
              have HS := hS.out
              obtain ⟨g, c9, hv, hg1, hg2⟩ := own_someE hown (by omega)
              injection hv with hv1 hv2 hv3
              subst hv1 hv3
              have x0 : wr.cell? ⟨g, k, none⟩ = some (.int .i64 X[k]) := (hown.cellAt k (by omega)).trans (HS.at hlt')
              have slo := HS.low
              have shi := HS.high
              by_cases hk0 : k = 0
              · have e5 : decide (0 < k) = false := decide_eq_false (by omega)
                have hz := HS.zero hk0
                cases hob : outB X[k] (-1000000000) 1000000000
                · have ho' : outB X[k] (-1000000000 - s) (1000000000 - s) = false := by rw [hz]; exact hob
                  have H1 := hide (HS.next hlt' ho')
                  have H2 := hide (HS.same hlt' hk0)
                  clear HS hS hz ho' hk0
                  generalize X[k] = x at x0 hob H1 H2
                  go_wp2_with (first | (go_at_call 23; refine (HWI.out _ _ _ _).mono ?_; rintro e_ w_ ⟨rfl, rfl⟩; rw [hob]))
                  first
                    | exact ⟨⟨k + 1, _, _, by omega, by go_num, hbr, H1, by rw [← H2.out]; exact hown⟩, by simp [intOf]; omega⟩
                    | (go_roundw
                       case rel => exact ⟨k + 1, _, _, by omega, by go_num, hbr, H1, by rw [← H2.out]; exact hown⟩
                       case measure => simp [intOf]; omega)
                · have ho' : outB X[k] (-1000000000 - s) (1000000000 - s) = true := by rw [hz]; exact hob
                  obtain ⟨hXn, hen⟩ : X0 = [] ∧ e = 2 := by have h1 := hsu'.out; rw [HS.bad hlt' ho'] at h1; injection h1 with h1 h2; exact ⟨h1.symm, h2.symm⟩
                  clear hsu' HS hS hz ho' hk0
                  subst hXn hen
                  generalize X[k] = x at x0 hob
                  go_wp2_with (first | (go_at_call 23; refine (HWI.out _ _ _ _).mono ?_; rintro e_ w_ ⟨rfl, rfl⟩; rw [hob]))
                  go_ret2
                  exact ⟨by first | exact ⟨none, ⟨0, rfl⟩, Rd.nil _ _⟩ | exact ⟨none, 0, rfl, Rd.nil _ _⟩, by first | exact hBe | (rw [hp]; exact hBe)⟩
              · have e5 : decide (0 < k) = true := decide_eq_true (by omega)
                have e6 : 0 < k := by omega
                have y0 : wr.cell? ⟨g, k - 1, none⟩ = some (.int .i64 s) := (hown.cellAt (k - 1) (by omega)).trans (HS.before (by omega))
                have u1 : IntKind.i64.wrap ((k : Int) - 1) = ((k - 1 : Nat) : Int) := by rw [show ((k - 1 : Nat) : Int) = (k : Int) - 1 by omega]; simp (disch := omega) only [IntWalk.i64_in]
                have i1 : ((k - 1 : Nat) : Int) < (M : Int) := by omega
                have hfz := hown.frozenAt k
                have H2 := fun y => hide (HS.row hlt' y)
                have HZ := fun y => hide (HS.put hlt' y)
                cases hob : outB X[k] (-1000000000 - s) (1000000000 - s)
                · have H1 := hide (HS.next hlt' hob)
                  have hob' := outB_false.1 hob
                  have h1 : outB X[k] (-2000000000) 2000000000 = false := outB_false.2 (by omega)
                  have h2 : outB (X[k] + s) (-1000000000) 1000000000 = false := outB_false.2 (by omega)
                  have u3 : IntKind.i64.wrap (X[k] + s) = X[k] + s := by simp (disch := omega) only [IntWalk.i64_in]
                  clear HS hS hob
                  generalize X[k] = x at x0 hob' h1 h2 u3 H1
                  generalize k - 1 = km at u1 i1 y0
                  go_upto_region 30 with (first | (go_at_call 23; refine (HWI.out _ _ _ _).mono ?_; rintro e_ w_ ⟨rfl, rfl⟩; rw [h1]))
                  have hSd : wr.drew.cell? ⟨g, k, none⟩ = some (.int .i64 x) ∧ wr.drew.cell? ⟨g, km, none⟩ = some (.int .i64 s) := ⟨x0, y0⟩
                  have x0d : wr.drew.cell? ⟨g, k, none⟩ = some (.int .i64 x) := x0
                  have hfd : wr.drew.frozen? ⟨g, k, none⟩ = false := hfz
                  have gz : g < wr.drew.heap.size := hg2
                  have hst := (hown.stored k (.int .i64 (x + s))).1.drew
                  refine wp_region_M (fun w' => w'.cell? ⟨g, k, none⟩ = some (.int .i64 x) ∧ w'.cell? ⟨g, km, none⟩ = some (.int .i64 s)) 13 (by kernel_rfl) ?_
                  refine AnyM.take (i := 0) (v := ?_) rfl (by kernel_rfl) (by kernel_rfl) (by kernel_rfl) (by kernel_rfl) (fun _ _ _ h => h) (Or.inl ⟨by rfl, ?_⟩) (by assumption) ?_
                  rotate_left 1
                  · (intro w hSw; obtain ⟨hk1, hk2⟩ := hSw; go_simp <;> with_reducible rfl)
                  simp only [Act.put, List.getElem_toArray, List.getElem_cons_zero, List.setIfInBounds_toArray, List.set_cons_zero, List.set_cons_succ]
                  refine AnyM.take (i := 1) (v := ?_) rfl (by kernel_rfl) (by kernel_rfl) (by kernel_rfl) (by kernel_rfl) (fun _ _ _ h => h) (Or.inl ⟨by rfl, ?_⟩) (by assumption) ?_
                  rotate_left 1
                  · (intro w hSw; obtain ⟨hk1, hk2⟩ := hSw; go_simp <;> with_reducible rfl)
                  simp only [Act.put, List.getElem_toArray, List.getElem_cons_zero, List.getElem_cons_succ, List.setIfInBounds_toArray, List.set_cons_zero, List.set_cons_succ]
                  refine AnyM.take (i := 2) (v := ?_) rfl (by kernel_rfl) (by kernel_rfl) (by kernel_rfl) (by kernel_rfl) (fun _ _ _ h => h) (Or.inl ⟨by rfl, ?_⟩) (by assumption) ?_
                  rotate_left 1
                  · (intro w hSw; obtain ⟨hk1, hk2⟩ := hSw; go_simp <;> with_reducible rfl)
                  simp only [Act.put, List.getElem_toArray, List.getElem_cons_zero, List.getElem_cons_succ, List.setIfInBounds_toArray, List.set_cons_zero, List.set_cons_succ]
                  refine AnyM.take (i := 3) (v := ?_) rfl (by kernel_rfl) (by kernel_rfl) (by kernel_rfl) (by kernel_rfl) (fun _ _ _ h => h) (Or.inl ⟨by rfl, ?_⟩) (by assumption) ?_
                  rotate_left 1
                  · (intro w hSw; obtain ⟨hk1, hk2⟩ := hSw; go_simp <;> with_reducible rfl)
                  simp only [Act.put, List.getElem_toArray, List.getElem_cons_zero, List.getElem_cons_succ, List.setIfInBounds_toArray, List.set_cons_zero, List.set_cons_succ]
                  refine AnyM.take (i := 4) (v := ?_) rfl (by kernel_rfl) (by kernel_rfl) (by kernel_rfl) (by kernel_rfl) (fun _ _ _ h => h) (Or.inl ⟨by rfl, ?_⟩) (by assumption) ?_
                  rotate_left 1
                  · (intro w hSw; obtain ⟨hk1, hk2⟩ := hSw; go_simp <;> with_reducible rfl)
                  simp only [Act.put, List.getElem_toArray, List.getElem_cons_zero, List.getElem_cons_succ, List.setIfInBounds_toArray, List.set_cons_zero, List.set_cons_succ]
                  refine AnyM.take (i := 5) (v := ?_) rfl (by kernel_rfl) (by kernel_rfl) (by kernel_rfl) (by kernel_rfl) (fun _ _ _ h => h) (Or.inl ⟨by rfl, ?_⟩) (by assumption) ?_
                  rotate_left 1
                  · (intro w hSw; obtain ⟨hk1, hk2⟩ := hSw; go_simp <;> with_reducible rfl)
                  simp only [Act.put, List.getElem_toArray, List.getElem_cons_zero, List.getElem_cons_succ, List.setIfInBounds_toArray, List.set_cons_zero, List.set_cons_succ]
                  refine AnyM.take (i := 6) (v := ?_) rfl (by kernel_rfl) (by kernel_rfl) (by kernel_rfl) (by kernel_rfl) (fun _ _ _ h => h) (Or.inl ⟨by rfl, ?_⟩) (by assumption) ?_
                  rotate_left 1
                  · (intro w hSw; obtain ⟨hk1, hk2⟩ := hSw; go_simp <;> with_reducible rfl)
                  simp only [Act.put, List.getElem_toArray, List.getElem_cons_zero, List.getElem_cons_succ, List.setIfInBounds_toArray, List.set_cons_zero, List.set_cons_succ]
                  refine AnyM.take (i := 7) (v := ?_) rfl (by kernel_rfl) (by kernel_rfl) (by kernel_rfl) (by kernel_rfl) (fun _ _ _ h => h) (Or.inl ⟨by rfl, ?_⟩) (by assumption) ?_
                  rotate_left 1
                  · (intro w hSw; obtain ⟨hk1, hk2⟩ := hSw; go_simp <;> with_reducible rfl)
                  simp only [Act.put, List.getElem_toArray, List.getElem_cons_zero, List.getElem_cons_succ, List.setIfInBounds_toArray, List.set_cons_zero, List.set_cons_succ]
                  refine AnyM.take (i := 8) (v := ?_) rfl (by kernel_rfl) (by kernel_rfl) (by kernel_rfl) (by kernel_rfl) (fun _ _ _ h => h) (Or.inl ⟨by rfl, ?_⟩) (by assumption) ?_
                  rotate_left 1
                  · (intro w hSw; obtain ⟨hk1, hk2⟩ := hSw; go_simp <;> with_reducible rfl)
                  simp only [Act.put, List.getElem_toArray, List.getElem_cons_zero, List.getElem_cons_succ, List.setIfInBounds_toArray, List.set_cons_zero, List.set_cons_succ]
                  refine AnyM.take (i := 9) (v := ?_) rfl (by kernel_rfl) (by kernel_rfl) (by kernel_rfl) (by kernel_rfl) (fun _ _ _ h => h) (Or.inl ⟨by rfl, ?_⟩) (by assumption) ?_
                  rotate_left 1
                  · (intro w hSw; obtain ⟨hk1, hk2⟩ := hSw; go_simp <;> with_reducible rfl)
                  simp only [Act.put, List.getElem_toArray, List.getElem_cons_zero, List.getElem_cons_succ, List.setIfInBounds_toArray, List.set_cons_zero, List.set_cons_succ]
                  refine AnyM.take (i := 10) (v := ?_) rfl (by kernel_rfl) (by kernel_rfl) (by kernel_rfl) (by kernel_rfl) (fun _ _ _ h => h) (Or.inl ⟨by rfl, ?_⟩) (by assumption) ?_
                  rotate_left 1
                  · (intro w hSw; obtain ⟨hk1, hk2⟩ := hSw; go_simp <;> with_reducible rfl)
                  simp only [Act.put, List.getElem_toArray, List.getElem_cons_zero, List.getElem_cons_succ, List.setIfInBounds_toArray, List.set_cons_zero, List.set_cons_succ]
                  refine AnyM.take (i := 11) (v := ?_) rfl (by kernel_rfl) (by kernel_rfl) (by kernel_rfl) (by kernel_rfl) (fun _ _ _ h => h) (Or.inl ⟨by rfl, ?_⟩) (by assumption) ?_
                  rotate_left 1
                  · (intro w hSw; obtain ⟨hk1, hk2⟩ := hSw; go_simp <;> with_reducible rfl)
                  simp only [Act.put, List.getElem_toArray, List.getElem_cons_zero, List.getElem_cons_succ, List.setIfInBounds_toArray, List.set_cons_zero, List.set_cons_succ]
                  refine AnyM.take (i := 12) (v := ?_) rfl (by kernel_rfl) (by kernel_rfl) (by kernel_rfl) (by kernel_rfl) (fun _ _ _ h => h) (Or.inl ⟨by rfl, ?_⟩) (by assumption) ?_
                  rotate_left 1
                  · (intro w hSw; obtain ⟨hk1, hk2⟩ := hSw; go_simp <;> with_reducible rfl)
                  simp only [Act.put, List.getElem_toArray, List.getElem_cons_zero, List.getElem_cons_succ, List.setIfInBounds_toArray, List.set_cons_zero, List.set_cons_succ]
                  refine AnyM.next [13] (by kernel_rfl) (by simp) ?_
                  refine NextM.cons rfl (fun K hK => ?_) NextM.nil
                  go_simp
                  refine hK _ _ (fun h => by simp at h) ?_
                  clear hK K
                  refine AnyM.done (by kernel_rfl) ?_ _
                  obtain ⟨w9, hw9⟩ : ∃ w9, (wr.setCell ⟨g, k, none⟩ (.int .i64 (x + s))).drew = w9 := ⟨_, rfl⟩
                  have hb9 : Below w1.heap.size w1 w9 := by rw [← hw9]; exact (hbr.setCell hg1 _).drew
                  have hX9 := hX2.bel hb9
                  have hBe9 : Below p w w9 := bel_tr hB2 (by omega) hb9
                  have hxs : w9.ownsRow w1.heap.size 3 1 (.slice (some ⟨g, 0, none⟩) M cv) M (ints ((D ++ [x + s]) ++ X.drop (k + 1))) := by rw [← hw9, ← (H2 (x + s)).out]; exact hst
                  have z0 : w9.cell? ⟨g, k, none⟩ = some (.int .i64 (x + s)) := (hxs.cellAt k (by omega)).trans (HZ (x + s)).out
                  rw [hw9]
                  clear hw9 hSd x0d hfd gz hst x0 y0 c0 c1 hown hBe H2 hfz HZ
                  have c0 := hX9.cell 0; have c1 := hX9.cell 1; simp only [List.getElem?_cons_zero, List.getElem?_cons_succ] at c0 c1
                  go_wp2_with (first | (go_at_call 23; refine (HWI.out _ _ _ _).mono ?_; rintro e_ w_ ⟨rfl, rfl⟩; rw [h2]))
                  first
                    | exact ⟨⟨k + 1, _, _, by omega, by go_num, hb9, H1, by rw [Int.add_comm s x]; exact hxs⟩, by simp [intOf]; omega⟩
                    | (go_roundw
                       case rel => exact ⟨k + 1, _, _, by omega, by go_num, hb9, H1, by rw [Int.add_comm s x]; exact hxs⟩
                       case measure => simp [intOf]; omega)
                · obtain ⟨hXn, hen⟩ : X0 = [] ∧ e = 2 := by have h1 := hsu'.out; rw [HS.bad hlt' hob] at h1; injection h1 with h1 h2; exact ⟨h1.symm, h2.symm⟩
                  subst hXn hen
                  cases h1 : outB X[k] (-2000000000) 2000000000
                  · have h3 := outB_false.1 h1
                    have h2 : outB (X[k] + s) (-1000000000) 1000000000 = true := by
                      cases h4 : outB (X[k] + s) (-1000000000) 1000000000
                      · have h5 := outB_false.1 h4
                        rw [outB_false.2 (by omega)] at hob
                        exact hob
                      · rfl
                    have u3 : IntKind.i64.wrap (X[k] + s) = X[k] + s := by simp (disch := omega) only [IntWalk.i64_in]
                    clear HS hS hob hsu'
                    generalize X[k] = x at x0 h1 h2 u3 h3
                    generalize k - 1 = km at u1 i1 y0
                    go_upto_region 30 with (first | (go_at_call 23; refine (HWI.out _ _ _ _).mono ?_; rintro e_ w_ ⟨rfl, rfl⟩; rw [h1]))
                    have hSd : wr.drew.cell? ⟨g, k, none⟩ = some (.int .i64 x) ∧ wr.drew.cell? ⟨g, km, none⟩ = some (.int .i64 s) := ⟨x0, y0⟩
                    have x0d : wr.drew.cell? ⟨g, k, none⟩ = some (.int .i64 x) := x0
                    have hfd : wr.drew.frozen? ⟨g, k, none⟩ = false := hfz
                    have gz : g < wr.drew.heap.size := hg2
                    have hst := (hown.stored k (.int .i64 (x + s))).1.drew
                    refine wp_region_M (fun w' => w'.cell? ⟨g, k, none⟩ = some (.int .i64 x) ∧ w'.cell? ⟨g, km, none⟩ = some (.int .i64 s)) 13 (by kernel_rfl) ?_
                    refine AnyM.take (i := 0) (v := ?_) rfl (by kernel_rfl) (by kernel_rfl) (by kernel_rfl) (by kernel_rfl) (fun _ _ _ h => h) (Or.inl ⟨by rfl, ?_⟩) (by assumption) ?_
                    rotate_left 1
                    · (intro w hSw; obtain ⟨hk1, hk2⟩ := hSw; go_simp <;> with_reducible rfl)
                    simp only [Act.put, List.getElem_toArray, List.getElem_cons_zero, List.setIfInBounds_toArray, List.set_cons_zero, List.set_cons_succ]
                    refine AnyM.take (i := 1) (v := ?_) rfl (by kernel_rfl) (by kernel_rfl) (by kernel_rfl) (by kernel_rfl) (fun _ _ _ h => h) (Or.inl ⟨by rfl, ?_⟩) (by assumption) ?_
                    rotate_left 1
                    · (intro w hSw; obtain ⟨hk1, hk2⟩ := hSw; go_simp <;> with_reducible rfl)
                    simp only [Act.put, List.getElem_toArray, List.getElem_cons_zero, List.getElem_cons_succ, List.setIfInBounds_toArray, List.set_cons_zero, List.set_cons_succ]
                    refine AnyM.take (i := 2) (v := ?_) rfl (by kernel_rfl) (by kernel_rfl) (by kernel_rfl) (by kernel_rfl) (fun _ _ _ h => h) (Or.inl ⟨by rfl, ?_⟩) (by assumption) ?_
                    rotate_left 1
                    · (intro w hSw; obtain ⟨hk1, hk2⟩ := hSw; go_simp <;> with_reducible rfl)
                    simp only [Act.put, List.getElem_toArray, List.getElem_cons_zero, List.getElem_cons_succ, List.setIfInBounds_toArray, List.set_cons_zero, List.set_cons_succ]
                    refine AnyM.take (i := 3) (v := ?_) rfl (by kernel_rfl) (by kernel_rfl) (by kernel_rfl) (by kernel_rfl) (fun _ _ _ h => h) (Or.inl ⟨by rfl, ?_⟩) (by assumption) ?_
                    rotate_left 1
                    · (intro w hSw; obtain ⟨hk1, hk2⟩ := hSw; go_simp <;> with_reducible rfl)
                    simp only [Act.put, List.getElem_toArray, List.getElem_cons_zero, List.getElem_cons_succ, List.setIfInBounds_toArray, List.set_cons_zero, List.set_cons_succ]
                    refine AnyM.take (i := 4) (v := ?_) rfl (by kernel_rfl) (by kernel_rfl) (by kernel_rfl) (by kernel_rfl) (fun _ _ _ h => h) (Or.inl ⟨by rfl, ?_⟩) (by assumption) ?_
                    rotate_left 1
                    · (intro w hSw; obtain ⟨hk1, hk2⟩ := hSw; go_simp <;> with_reducible rfl)
                    simp only [Act.put, List.getElem_toArray, List.getElem_cons_zero, List.getElem_cons_succ, List.setIfInBounds_toArray, List.set_cons_zero, List.set_cons_succ]
                    refine AnyM.take (i := 5) (v := ?_) rfl (by kernel_rfl) (by kernel_rfl) (by kernel_rfl) (by kernel_rfl) (fun _ _ _ h => h) (Or.inl ⟨by rfl, ?_⟩) (by assumption) ?_
                    rotate_left 1
                    · (intro w hSw; obtain ⟨hk1, hk2⟩ := hSw; go_simp <;> with_reducible rfl)
                    simp only [Act.put, List.getElem_toArray, List.getElem_cons_zero, List.getElem_cons_succ, List.setIfInBounds_toArray, List.set_cons_zero, List.set_cons_succ]
                    refine AnyM.take (i := 6) (v := ?_) rfl (by kernel_rfl) (by kernel_rfl) (by kernel_rfl) (by kernel_rfl) (fun _ _ _ h => h) (Or.inl ⟨by rfl, ?_⟩) (by assumption) ?_
                    rotate_left 1
                    · (intro w hSw; obtain ⟨hk1, hk2⟩ := hSw; go_simp <;> with_reducible rfl)
                    simp only [Act.put, List.getElem_toArray, List.getElem_cons_zero, List.getElem_cons_succ, List.setIfInBounds_toArray, List.set_cons_zero, List.set_cons_succ]
                    refine AnyM.take (i := 7) (v := ?_) rfl (by kernel_rfl) (by kernel_rfl) (by kernel_rfl) (by kernel_rfl) (fun _ _ _ h => h) (Or.inl ⟨by rfl, ?_⟩) (by assumption) ?_
                    rotate_left 1
                    · (intro w hSw; obtain ⟨hk1, hk2⟩ := hSw; go_simp <;> with_reducible rfl)
                    simp only [Act.put, List.getElem_toArray, List.getElem_cons_zero, List.getElem_cons_succ, List.setIfInBounds_toArray, List.set_cons_zero, List.set_cons_succ]
                    refine AnyM.take (i := 8) (v := ?_) rfl (by kernel_rfl) (by kernel_rfl) (by kernel_rfl) (by kernel_rfl) (fun _ _ _ h => h) (Or.inl ⟨by rfl, ?_⟩) (by assumption) ?_
                    rotate_left 1
                    · (intro w hSw; obtain ⟨hk1, hk2⟩ := hSw; go_simp <;> with_reducible rfl)
                    simp only [Act.put, List.getElem_toArray, List.getElem_cons_zero, List.getElem_cons_succ, List.setIfInBounds_toArray, List.set_cons_zero, List.set_cons_succ]
                    refine AnyM.take (i := 9) (v := ?_) rfl (by kernel_rfl) (by kernel_rfl) (by kernel_rfl) (by kernel_rfl) (fun _ _ _ h => h) (Or.inl ⟨by rfl, ?_⟩) (by assumption) ?_
                    rotate_left 1
                    · (intro w hSw; obtain ⟨hk1, hk2⟩ := hSw; go_simp <;> with_reducible rfl)
                    simp only [Act.put, List.getElem_toArray, List.getElem_cons_zero, List.getElem_cons_succ, List.setIfInBounds_toArray, List.set_cons_zero, List.set_cons_succ]
                    refine AnyM.take (i := 10) (v := ?_) rfl (by kernel_rfl) (by kernel_rfl) (by kernel_rfl) (by kernel_rfl) (fun _ _ _ h => h) (Or.inl ⟨by rfl, ?_⟩) (by assumption) ?_
                    rotate_left 1
                    · (intro w hSw; obtain ⟨hk1, hk2⟩ := hSw; go_simp <;> with_reducible rfl)
                    simp only [Act.put, List.getElem_toArray, List.getElem_cons_zero, List.getElem_cons_succ, List.setIfInBounds_toArray, List.set_cons_zero, List.set_cons_succ]
                    refine AnyM.take (i := 11) (v := ?_) rfl (by kernel_rfl) (by kernel_rfl) (by kernel_rfl) (by kernel_rfl) (fun _ _ _ h => h) (Or.inl ⟨by rfl, ?_⟩) (by assumption) ?_
                    rotate_left 1
                    · (intro w hSw; obtain ⟨hk1, hk2⟩ := hSw; go_simp <;> with_reducible rfl)
                    simp only [Act.put, List.getElem_toArray, List.getElem_cons_zero, List.getElem_cons_succ, List.setIfInBounds_toArray, List.set_cons_zero, List.set_cons_succ]
                    refine AnyM.take (i := 12) (v := ?_) rfl (by kernel_rfl) (by kernel_rfl) (by kernel_rfl) (by kernel_rfl) (fun _ _ _ h => h) (Or.inl ⟨by rfl, ?_⟩) (by assumption) ?_
                    rotate_left 1
                    · (intro w hSw; obtain ⟨hk1, hk2⟩ := hSw; go_simp <;> with_reducible rfl)
                    simp only [Act.put, List.getElem_toArray, List.getElem_cons_zero, List.getElem_cons_succ, List.setIfInBounds_toArray, List.set_cons_zero, List.set_cons_succ]
                    refine AnyM.next [13] (by kernel_rfl) (by simp) ?_
                    refine NextM.cons rfl (fun K hK => ?_) NextM.nil
                    go_simp
                    refine hK _ _ (fun h => by simp at h) ?_
                    clear hK K
                    refine AnyM.done (by kernel_rfl) ?_ _
                    obtain ⟨w9, hw9⟩ : ∃ w9, (wr.setCell ⟨g, k, none⟩ (.int .i64 (x + s))).drew = w9 := ⟨_, rfl⟩
                    have hb9 : Below w1.heap.size w1 w9 := by rw [← hw9]; exact (hbr.setCell hg1 _).drew
                    have hX9 := hX2.bel hb9
                    have hBe9 : Below p w w9 := bel_tr hB2 (by omega) hb9
                    have hxs : w9.ownsRow w1.heap.size 3 1 (.slice (some ⟨g, 0, none⟩) M cv) M (ints ((D ++ [x + s]) ++ X.drop (k + 1))) := by rw [← hw9, ← (H2 (x + s)).out]; exact hst
                    have z0 : w9.cell? ⟨g, k, none⟩ = some (.int .i64 (x + s)) := (hxs.cellAt k (by omega)).trans (HZ (x + s)).out
                    rw [hw9]
                    clear hw9 hSd x0d hfd gz hst x0 y0 c0 c1 hown hBe H2 hfz HZ
                    have c0 := hX9.cell 0; have c1 := hX9.cell 1; simp only [List.getElem?_cons_zero, List.getElem?_cons_succ] at c0 c1
                    go_wp2_with (first | (go_at_call 23; refine (HWI.out _ _ _ _).mono ?_; rintro e_ w_ ⟨rfl, rfl⟩; rw [h2]))
                    go_ret2
                    exact ⟨by first | exact ⟨none, ⟨0, rfl⟩, Rd.nil _ _⟩ | exact ⟨none, 0, rfl, Rd.nil _ _⟩, by first | exact hBe9 | (rw [hp]; exact hBe9)⟩
                  · clear HS hS hob hsu' H2 HZ
                    generalize X[k] = x at x0 h1
                    generalize k - 1 = km at u1 i1 y0
                    go_wp2_with (first | (go_at_call 23; refine (HWI.out _ _ _ _).mono ?_; rintro e_ w_ ⟨rfl, rfl⟩; rw [h1]))
                    go_ret2
                    exact ⟨by first | exact ⟨none, ⟨0, rfl⟩, Rd.nil _ _⟩ | exact ⟨none, 0, rfl, Rd.nil _ _⟩, by first | exact hBe | (rw [hp]; exact hBe)⟩
            · obtain rfl : k = M := by omega
              have iL : ¬ (k : Int) < (k : Int) := by omega
              obtain ⟨hXn, hen⟩ : X0 = D ∧ e = 0 := by have h1 := hsu'.out; rw [hS.out.done hXl.out.symm] at h1; injection h1 with h1 h2; exact ⟨h1.symm, h2.symm⟩
              have hMM := hS.out.len
              have rX := Rd.of_own hown
              rw [← hXl.out, List.drop_length, List.append_nil] at rX
              clear hsu' hXl hS
              subst hXn hen hMM
              go_wp2
              go_ret2
              exact ⟨by first | exact ⟨Av, ⟨cv, rfl⟩, rX⟩ | exact ⟨Av, cv, rfl, rX⟩, by first | exact hBe | (rw [hp]; exact hBe)⟩

end Go.Proofs.Ytmdmkmfemhkfgaa

/- Contracts: the reference's Unpacked answers as Unpacked does. -/
set_option linter.unusedSimpArgs false
set_option linter.unusedVariables false
namespace Go.Proofs.Ytmdmkmfemhkfgaa
open Go.RowKit

theorem refUnpacked_c (way : Int) (l : List Int) (A : Option Addr) (c : Nat) (w : World) (hr : Rd w A (ints l)) (hl : l.length ≤ 1000) :
    Calls Try.prog 31 #[.agg #[.int .i64 way, .slice A l.length c]] w (UnpPost (unpR way l) w) := by
  unfold unpR
  by_cases hw : outB way 0 2 = true
  · rw [if_pos hw]
    exact (rU_way way l A c w hr hw).mono fun r w' h => Unp_nil h
  rw [if_neg hw]
  have hw' : outB way 0 2 = false := by simpa using hw
  by_cases hm : 400 < l.length
  · rw [if_pos hm]
    exact (rU_many way l A c w hr hl hw' hm).mono fun r w' h => Unp_nil h
  rw [if_neg hm]
  by_cases hw0 : way = 0
  · subst hw0
    rw [if_pos rfl]
    by_cases h200 : 200 < l.length
    · have he := serE_many h200
      rw [he, if_neg (by decide)]
      exact (rU_0long l A c w hr (by omega) h200).mono fun r w' h => Unp_nil h
    · have h1 := rU_0 l _ _ A c w hr (by omega) (by omega) rfl rfl
      by_cases he : serE l = 0
      · rw [if_pos he] at h1 ⊢
        rw [he] at h1
        exact h1
      · rw [if_neg he] at h1 ⊢
        exact h1
  rw [if_neg hw0]
  by_cases hp : l.length % 2 ≠ 0
  · rw [if_pos hp]
    exact (rU_odd way l A c w hr hw0 hw' (by omega) (by omega)).mono fun r w' h => Unp_nil h
  rw [if_neg hp]
  have hfl := flat_pairsOf l (by omega)
  generalize pairsOf l = R at hfl
  subst hfl
  have hn4 : (flat R).length ≤ 400 := by omega
  have hway : way = 1 ∨ way = 2 := by have := outB_false.1 hw'; omega
  by_cases hok : okR R = false
  · rw [if_pos hok]
    rcases hway with rfl | rfl
    · exact (rU1_count R A c w hr hn4 hok).mono fun r w' h => Unp_nil h
    · exact (rU2_count R A c w hr hn4 hok).mono fun r w' h => Unp_nil h
  rw [if_neg hok]
  have hok' : okR R = true := by simpa using hok
  by_cases hlong : 200 < (expand R).length
  · rw [if_pos hlong]
    rcases hway with rfl | rfl
    · exact (rU1_long R A c w hr hn4 hok' hlong).mono fun r w' h => Unp_nil h
    · exact (rU2_long R A c w hr hn4 hok' hlong).mono fun r w' h => Unp_nil h
  rw [if_neg hlong]
  rcases hway with rfl | rfl
  · rw [if_pos rfl]
    exact rU1 R _ _ A c w hr hn4 hok' (by omega) (by cases sumF 0 (expand R) <;> rfl)
  · rw [if_neg (by decide)]
    have h1 := rU2 R _ _ A c w hr hn4 hok' (by omega) rfl rfl
    by_cases he : serE (expand R) = 0
    · rw [if_pos he] at h1 ⊢
      rw [he] at h1
      exact h1
    · rw [if_neg he] at h1 ⊢
      exact h1
end Go.Proofs.Ytmdmkmfemhkfgaa

/- The law of packing. -/
set_option linter.unusedSimpArgs false
set_option linter.unusedVariables false
namespace Go.Proofs.Ytmdmkmfemhkfgaa
open Go.RowKit
set_option maxRecDepth 100000

theorem unpR_length (way : Int) (l : List Int) : (unpR way l).1.length ≤ 200 := by
  unfold unpR
  split
  · exact Nat.zero_le _
  split
  · exact Nat.zero_le _
  split
  · split
    · rename_i h
      exact (serE_zero h).1
    · exact Nat.zero_le _
  split
  · exact Nat.zero_le _
  split
  · exact Nat.zero_le _
  split
  · exact Nat.zero_le _
  rename_i hlong
  split
  · split
    · exact Nat.zero_le _
    · rename_i o ho
      have := sumF_length _ _ _ ho
      dsimp only
      omega
  · split
    · dsimp only
      omega
    · exact Nat.zero_le _
set_option maxHeartbeats 4000000 in
theorem packsLaw_few (l : List Int) (way : Int) (k : List Int) (A B : Option Addr) (c d : Nat) (w : World) (hr : Rd w A (ints l)) (hs : Rd w B (ints k)) (hl : l.length ≤ 210) (hk : k.length ≤ 410) :
    Calls Try.prog 6 #[.slice A l.length c, .agg #[.int .i64 way, .slice B k.length d]] w fun r w' => r = .returned (.bool true) ∧ Below w.heap.size w w' := by
  have HSE := hide (fun W (h : Rd W A (ints l)) => refSeriesErr_c A c l W h (by unfold maxLen; omega))
  obtain ⟨x, hx⟩ : ∃ x : Int × List Int, (if serE l = 0 then packR l else (0, [])) = x := ⟨_, rfl⟩
  have HPK : Hid (∀ A' c' W, Rd W A' (ints l) → Calls Try.prog 27 #[.slice A' l.length c'] W fun r w' => (∃ A' c', r = .returned (.tuple #[.agg #[.int .i64 x.1, .slice A' x.2.length c'], .int .i64 (serE l)]) ∧ Rd w' A' (ints x.2)) ∧ Below W.heap.size W w') := by
    intro A' c' W h
    by_cases he : serE l = 0
    · rw [← hx, if_pos he, he]
      exact (packed_ok l A' c' W h (by omega) he).mono fun r w' ⟨⟨A2, c2, h1, h2⟩, h3⟩ => ⟨⟨A2, c2, h1, h2.1⟩, h3⟩
    · rw [← hx, if_neg he]
      exact (packed_bad l A' c' W h (by omega) he).mono fun r w' ⟨h1, h2⟩ => ⟨⟨none, 0, h1, Rd.nil _ _⟩, h2⟩
  have hnx : x.2.length ≤ 210 := by
    rw [← hx]
    split
    · exact Nat.le_trans (packR_cases l).2.1 hl
    · exact Nat.zero_le _
  have hx' := hide hx
  obtain ⟨wx, nx⟩ := x
  dsimp only at HPK hnx
  have HRP := hide (fun W (he : serE l = 0) (h : Rd W A (ints l)) => refPacked_c l A c W h (by omega) (serE_zero he).2)
  obtain ⟨e, he⟩ : ∃ e, serE l = e := ⟨_, rfl⟩
  have he' := hide he
  rw [he] at HPK HSE hx'
  clear he
  have HSM := hide (fun A1 c1 A2 c2 W (h1 : Rd W A1 (ints nx)) (h2 : Rd W A2 (ints nx)) => samePacked_c wx wx nx nx A1 A2 c1 c2 W h1 h2 (by omega))
  rw [decide_eq_true ⟨rfl, rfl⟩] at HSM
  clear hx
  have HCI := hide (fun W (h : Rd W A (ints l)) => copyInts_c l A c W h (by omega))
  have HCP := hide (fun W (h : Rd W B (ints k)) => copyPacked_c way B d k W h (by omega))
  have HUN := hide (fun A' c' W (h : Rd W A' (ints k)) h' => unpacked_c way k A' c' W h h' (by omega))
  have HRU := hide (fun W (h : Rd W B (ints k)) => refUnpacked_c way k B d W h (by omega))
  obtain ⟨⟨Y, f⟩, hY⟩ : ∃ x, unpR way k = x := ⟨_, rfl⟩
  rw [hY] at HUN HRU
  unfold UnpPost at HUN HRU
  dsimp only at HUN HRU
  have hYl : Y.length ≤ 200 := by have h1 := unpR_length way k; rw [hY] at h1; exact h1
  have HII := hide (fun A1 c1 A2 c2 W (h : Rd W A1 (ints Y)) (h' : Rd W A2 (ints Y)) => ints_c Y Y A1 A2 c1 c2 W h h' (by omega))
  rw [decide_eq_true rfl] at HII
  clear hY hYl
  obtain ⟨n, hn⟩ : ∃ n, k.length = n := ⟨_, rfl⟩
  obtain ⟨m, hm⟩ : ∃ m, l.length = m := ⟨_, rfl⟩
  have hn' := hide hn
  have hm' := hide hm
  rw [hn] at hk HCP HUN HRU ⊢
  rw [hm] at hl HCI HSE HPK ⊢
  clear hn hm
  have e1 : decide ((210 : Int) < (m : Int)) = false := decide_eq_false (by omega)
  have e2 : ¬ (210 : Int) < (m : Int) := by omega
  have e3 : decide ((410 : Int) < (n : Int)) = false := decide_eq_false (by omega)
  have e4 : ¬ (410 : Int) < (n : Int) := by omega
  obtain ⟨p, hp⟩ : ∃ p, w.heap.size = p := ⟨_, rfl⟩
  obtain ⟨W, hW⟩ : ∃ W, w.alloc (.cells #[.int .i64 way, .slice B n d] 54) = W := ⟨_, rfl⟩
  have hX : Blk W p 54 [.int .i64 way, .slice B n d] := by rw [← hW, ← hp]; exact Blk.new w _ [_, _]
  have hB : Below p w W := by rw [← hW, ← hp]; exact alloc_bel _ _
  have hrW := hr.bel (by rw [hp]; exact hB)
  have hsW := hs.bel (by rw [hp]; exact hB)
  have HW := hide hW
  have hpW := hX.lt
  clear hW hr hs
  have c0 := hX.cell 0; have c1 := hX.cell 1; simp only [List.getElem?_cons_zero, List.getElem?_cons_succ] at c0 c1
  go_enter Try.func6, Try.ntmps6
  go_upto_region 1 with fail
  try rw [hp]
  rw [HW.out]
  go_upto_region 6 with (first
    | (go_at_call 9; refine (awake_c _).mono ?_; rintro e_ w1 ⟨rfl, hb1⟩; have hr1 := hrW.bel hb1; have hs1 := hsW.bel hb1; have hX1 := hX.bel hb1; have d0 := hX1.cell 0; have d1 := hX1.cell 1; simp only [List.getElem?_cons_zero, List.getElem?_cons_succ] at d0 d1)
    | (go_at_call 28; refine (HCI.out _ hr1).mono ?_; rintro e_ w2 ⟨⟨A2, c2, rfl, ra2⟩, hb2⟩)
    | (go_at_call 27; refine (HPK.out _ _ _ ra2.1).mono ?_; rintro e_ w3 ⟨⟨A3, c3, rfl, ra3⟩, hb3⟩))
  obtain ⟨q, hq⟩ : ∃ q, w3.heap.size = q := ⟨_, rfl⟩
  obtain ⟨w4, hw4⟩ : ∃ w4, w3.alloc (.cells #[.int .i64 wx, .slice A3 nx.length c3] 54) = w4 := ⟨_, rfl⟩
  have hV : Blk w4 q 54 [.int .i64 wx, .slice A3 nx.length c3] := by rw [← hw4, ← hq]; exact Blk.new w3 _ [_, _]
  have hb4 : Below w3.heap.size w3 w4 := by rw [← hw4]; exact alloc_bel _ _
  have hB4 : Below w1.heap.size w1 w4 := bel_tr (bel_tr hb2 hb2.size hb3) (bel_tr hb2 hb2.size hb3).size hb4
  have hX4 := hX1.bel hB4
  have hr4 := hr1.bel hB4
  have hs4 := hs1.bel hB4
  have ra4 := ra3.bel hb4
  have hB14 : Below p w w4 := bel_tr (bel_tr hB (by omega) hb1) (by have := hX1.lt; omega) hB4
  try rw [hq]
  rw [hw4]
  clear hw4 hb4 hB4 ra2 ra3 hb2 hb3 hr1 hs1 hX1 hb1 d0 d1 hq hX hrW hsW c0 c1 hB
  have k0 := hX4.cell 0; have k1 := hX4.cell 1; simp only [List.getElem?_cons_zero, List.getElem?_cons_succ] at k0 k1
  go_upto_region 8 with (first
    | (go_at_call 30; refine (HCP.out _ hs4).mono ?_; rintro e_ w5 ⟨⟨A5, c5, rfl, ra5, rk5⟩, hb5⟩)
    | (go_at_call 29; refine (HUN.out _ _ _ ra5 rk5).mono ?_; rintro e_ w6 ⟨⟨A6, c6, rfl, ra6⟩, hb6⟩; have hB6 := bel_tr hb5 hb5.size hb6; have hX6 := hX4.bel hB6; have hr6 := hr4.bel hB6; have hs6 := hs4.bel hB6; have z0 := hX6.cell 0; have z1 := hX6.cell 1; simp only [List.getElem?_cons_zero, List.getElem?_cons_succ] at z0 z1)
    | (go_at_call 31; refine (HRU.out _ hs6).mono ?_; rintro e_ w7 ⟨⟨A7, c7, rfl, ra7⟩, hb7⟩))
  have hV7 := (hV.bel hB6).bel hb7
  have hr7 := hr6.bel hb7
  have ra67 := ra6.bel hb7
  have rx7 := (ra4.bel hB6).bel hb7
  have hB17 : Below p w w7 := bel_tr (bel_tr hB14 (by have := hX4.lt; omega) hB6) (by have := hX6.lt; omega) hb7
  have hp7 : p < w7.heap.size := by have := hX6.lt; have := hb7.size; omega
  clear hb7 hB6 hb5 hb6 hV ra4 ra5 ra6 rk5 hX4 hX6 hr4 hr6 hs4 hs6 hB14 k0 k1 z0 z1 HRU HUN HCP HPK HCI HW
  go_upto_region 11 with (first
    | (go_at_call 32; refine (HII.out _ _ _ _ _ ra67 ra7).mono ?_; rintro e_ w8 ⟨rfl, hb8⟩; have hr8 := hr7.bel hb8)
    | (go_at_call 33; refine (HSE.out _ hr8).mono ?_; rintro e_ w9 ⟨rfl, hb9⟩))
  have hB79 := bel_tr hb8 hb8.size hb9
  have hV9 := hV7.bel hB79
  have rx9 := rx7.bel hB79
  have hr9 := hr8.bel hb9
  have hB19 : Below p w w9 := bel_tr hB17 (by omega) hB79
  have hp9 : p < w9.heap.size := by have := hB79.size; omega
  clear hB79 hV7 rx7 hr7 hr8 hb8 hb9 hB17 ra67 ra7 HII HSE
  have v0 := hV9.cell 0; have v1 := hV9.cell 1; simp only [List.getElem?_cons_zero, List.getElem?_cons_succ] at v0 v1
  have hv9 := hV9.lt
  by_cases he0 : e = 0
  · have hx2 := hx'.out
    rw [if_pos he0] at hx2
    have HR2 := hide (fun W (h : Rd W A (ints l)) => HRP.out W (he'.out.trans he0) h)
    rw [hx2, hm'.out] at HR2
    dsimp only at HR2
    subst he0
    clear hx2 hx' he' HRP
    have hcl : ∀ W', Below w9.heap.size w9 W' → (∀ b o, b < w9.heap.size → W'.cell? ⟨b, o, none⟩ = w9.cell? ⟨b, o, none⟩) ∧ Below w9.heap.size w9 W' := fun W' hb => ⟨fun b o h => hb.cell (p := ⟨b, o, none⟩) h, hb⟩
    have hSd := hcl _ (Below.refl w9.heap.size w9).drew
    go_upto_region 13 with fail
    refine wp_region_held (S := fun w' => (∀ b o, b < w9.heap.size → w'.cell? ⟨b, o, none⟩ = w9.cell? ⟨b, o, none⟩) ∧ Below w9.heap.size w9 w') (by kernel_rfl) ?_
    change wpAnyH _ _ _ _ _ _ _ _ w9.drew
    refine wpAnyH_take (i := 0) (v := ?_) rfl (by kernel_rfl) (by kernel_rfl) (by kernel_rfl) (fun _ _ _ h => h) (Or.inl ⟨by kernel_rfl, ?_⟩) (by assumption) ?_
    rotate_left 1
    · (intro w hSw; obtain ⟨hk1, hk2⟩ := hSw; go_simp <;> with_reducible rfl)
    simp only [Act.put, List.getElem_toArray, List.getElem_cons_zero, List.setIfInBounds_toArray, List.set_cons_zero, List.set_cons_succ]
    refine wpAnyH_take (i := 1) (v := ?_) rfl (by kernel_rfl) (by kernel_rfl) (by kernel_rfl) (fun _ _ _ h => h) (Or.inl ⟨by kernel_rfl, ?_⟩) (by assumption) ?_
    rotate_left 1
    · (intro w hSw; obtain ⟨hk1, hk2⟩ := hSw; go_simp <;> with_reducible rfl)
    simp only [Act.put, List.getElem_toArray, List.getElem_cons_zero, List.getElem_cons_succ, List.setIfInBounds_toArray, List.set_cons_zero, List.set_cons_succ]
    refine wpAnyH_take (i := 2) (v := ?_) rfl (by kernel_rfl) (by kernel_rfl) (by kernel_rfl) (fun _ _ _ h => h) (Or.inl ⟨by kernel_rfl, ?_⟩) (by assumption) ?_
    rotate_left 1
    · (intro w hSw; obtain ⟨hk1, hk2⟩ := hSw; go_simp <;> with_reducible rfl)
    simp only [Act.put, List.getElem_toArray, List.getElem_cons_zero, List.getElem_cons_succ, List.setIfInBounds_toArray, List.set_cons_zero, List.set_cons_succ]
    refine wpAnyH_take (i := 3) (v := ?_) rfl (by kernel_rfl) (by kernel_rfl) (by kernel_rfl) (fun _ _ _ h => h) (Or.inl ⟨by kernel_rfl, ?_⟩) (by assumption) ?_
    rotate_left 1
    · (intro w hSw; obtain ⟨hk1, hk2⟩ := hSw; go_simp <;> with_reducible rfl)
    simp only [Act.put, List.getElem_toArray, List.getElem_cons_zero, List.getElem_cons_succ, List.setIfInBounds_toArray, List.set_cons_zero, List.set_cons_succ]
    refine wpAnyH_take (i := 4) (v := ?_) rfl (by kernel_rfl) (by kernel_rfl) (by kernel_rfl) (fun _ _ _ h => h) (Or.inl ⟨by kernel_rfl, ?_⟩) (by assumption) ?_
    rotate_left 1
    · (intro w hSw; obtain ⟨hk1, hk2⟩ := hSw; go_simp <;> with_reducible rfl)
    simp only [Act.put, List.getElem_toArray, List.getElem_cons_zero, List.getElem_cons_succ, List.setIfInBounds_toArray, List.set_cons_zero, List.set_cons_succ]
    refine nextH (i := 5) (by kernel_rfl) rfl (fun K hK => ?_)
    go_simp
    refine (HR2.out _ (hr9.bel hSd.2)).mono ?_
    rintro e_ w10 ⟨⟨A10, c10, rfl, ra10⟩, hb10⟩
    try dsimp only
    have hb90 := bel_tr hSd.2 hSd.2.size hb10
    have hS0 := hcl _ hb90
    refine hK _ _ hS0 ?_
    clear hK K hSd
    try simp only [Act.put, List.getElem_toArray, List.getElem_cons_zero, List.getElem_cons_succ, List.setIfInBounds_toArray, List.set_cons_zero, List.set_cons_succ]
    refine nextH (i := 6) (by kernel_rfl) rfl (fun K hK => ?_)
    go_simp
    refine (HSM.out _ _ _ _ _ (rx9.bel hb90) ra10).mono ?_
    rintro e_ w11 ⟨rfl, hb11⟩
    try dsimp only
    have hb91 := bel_tr hb90 hb90.size hb11
    have hS1 := hcl _ hb91
    refine hK _ _ hS1 ?_
    clear hK K hS0
    try simp only [Act.put, List.getElem_toArray, List.getElem_cons_zero, List.getElem_cons_succ, List.setIfInBounds_toArray, List.set_cons_zero, List.set_cons_succ]
    refine wpAnyH_take (i := 7) (v := ?_) rfl (by kernel_rfl) (by kernel_rfl) (by kernel_rfl) (fun _ _ _ h => h) (Or.inl ⟨by kernel_rfl, ?_⟩) (by assumption) ?_
    rotate_left 1
    · (intro w hSw; obtain ⟨hk1, hk2⟩ := hSw; go_simp <;> with_reducible rfl)
    simp only [Act.put, List.getElem_toArray, List.getElem_cons_zero, List.getElem_cons_succ, List.setIfInBounds_toArray, List.set_cons_zero, List.set_cons_succ]
    refine nextH (i := 8) (by kernel_rfl) rfl (fun K hK => ?_)
    go_simp
    refine hK _ _ hS1 ?_
    clear hK K
    refine wpAnyH_done (by kernel_rfl) ?_ _
    have hBz : Below p w w11 := bel_tr hB19 (by omega) hb91
    go_wp2
    go_ret
    exact ⟨rfl, by first | exact hBz | (rw [hp]; exact hBz)⟩
  · have hx2 := hx'.out
    rw [if_neg he0] at hx2
    obtain ⟨rfl, rfl⟩ : wx = 0 ∧ nx = [] := by injection hx2 with h1 h2; exact ⟨h1.symm, h2.symm⟩
    have e5 : (e != 0) = true := by simpa using he0
    clear hx2 hx' he' HRP he0
    go_wp2_with (first
      | (go_at_call 34; refine (HSM.out _ _ none 0 _ rx9 (Rd.nil _ _)).mono ?_; rintro e_ w11 ⟨rfl, hb11⟩))
    go_ret
    have hBz : Below p w w11 := bel_tr hB19 (by omega) hb11
    exact ⟨rfl, by first | exact hBz | (rw [hp]; exact hBz)⟩
set_option maxHeartbeats 4000000 in
theorem packsLaw_many (l : List Int) (way : Int) (k : List Int) (A B : Option Addr) (c d : Nat) (w : World) (hmn : ¬ (l.length ≤ 210 ∧ k.length ≤ 410)) :
    Calls Try.prog 6 #[.slice A l.length c, .agg #[.int .i64 way, .slice B k.length d]] w fun r w' => r = .returned (.bool true) ∧ Below w.heap.size w w' := by
  generalize k.length = n at hmn ⊢
  generalize l.length = m at hmn ⊢
  obtain ⟨p, hp⟩ : ∃ p, w.heap.size = p := ⟨_, rfl⟩
  obtain ⟨W, hW⟩ : ∃ W, w.alloc (.cells #[.int .i64 way, .slice B n d] 54) = W := ⟨_, rfl⟩
  have hX : Blk W p 54 [.int .i64 way, .slice B n d] := by rw [← hW, ← hp]; exact Blk.new w _ [_, _]
  have hB : Below p w W := by rw [← hW, ← hp]; exact alloc_bel _ _
  have HW := hide hW
  have hpW := hX.lt
  clear hW
  have c0 := hX.cell 0; have c1 := hX.cell 1; simp only [List.getElem?_cons_zero, List.getElem?_cons_succ] at c0 c1
  by_cases hm : 210 < m
  · have e1 : decide ((210 : Int) < (m : Int)) = true := decide_eq_true (by omega)
    have e2 : (210 : Int) < (m : Int) := by omega
    go_enter Try.func6, Try.ntmps6
    go_upto_region 1 with fail
    try rw [hp]
    rw [HW.out]
    go_wp2_with (first
      | (go_at_call 9; refine (awake_c _).mono ?_; rintro e_ w1 ⟨rfl, hb1⟩; have hX1 := hX.bel hb1; have d0 := hX1.cell 0; have d1 := hX1.cell 1; simp only [List.getElem?_cons_zero, List.getElem?_cons_succ] at d0 d1))
    go_ret
    have hBz : Below p w w1 := bel_tr hB (by omega) hb1
    exact ⟨rfl, by first | exact hBz | (rw [hp]; exact hBz)⟩
  · have e1 : decide ((210 : Int) < (m : Int)) = false := decide_eq_false (by omega)
    have e2 : ¬ (210 : Int) < (m : Int) := by omega
    have e3 : decide ((410 : Int) < (n : Int)) = true := decide_eq_true (by omega)
    have e4 : (410 : Int) < (n : Int) := by omega
    go_enter Try.func6, Try.ntmps6
    go_upto_region 1 with fail
    try rw [hp]
    rw [HW.out]
    go_wp2_with (first
      | (go_at_call 9; refine (awake_c _).mono ?_; rintro e_ w1 ⟨rfl, hb1⟩; have hX1 := hX.bel hb1; have d0 := hX1.cell 0; have d1 := hX1.cell 1; simp only [List.getElem?_cons_zero, List.getElem?_cons_succ] at d0 d1))
    go_ret
    have hBz : Below p w w1 := bel_tr hB (by omega) hb1
    exact ⟨rfl, by first | exact hBz | (rw [hp]; exact hBz)⟩
theorem packsLaw_c (l : List Int) (way : Int) (k : List Int) (A B : Option Addr) (c d : Nat) (w : World) (hr : Rd w A (ints l)) (hs : Rd w B (ints k)) :
    Calls Try.prog 6 #[.slice A l.length c, .agg #[.int .i64 way, .slice B k.length d]] w fun r w' => r = .returned (.bool true) ∧ Below w.heap.size w w' := by
  by_cases h : l.length ≤ 210 ∧ k.length ≤ 410
  · exact packsLaw_few l way k A B c d w hr hs h.1 h.2
  · exact packsLaw_many l way k A B c d w h
end Go.Proofs.Ytmdmkmfemhkfgaa

