/- The law CodeSearches: the call returns true, and nothing that was there turns. Condition: the laid table. -/
import Derived.Test.YthkmeaibppkhmaaDoorS3
import Derived.Test.YthkmeaibppkhmaaDoorL01
import Derived.Test.YthkmeaibppkhmaaDoorMG
namespace Go.Proofs.YthkmeaibppkhmaaDoor
open Go.RowKit
set_option maxRecDepth 100000


theorem searches_1 (len : Int) (l : List Int) (C : Option Addr) (q : Nat) (w : World) (hT : Tab w) (hr : Rd w C (ints l)) (o1 : outB len 9 10 = false) :
    Calls Tryd.prog 4 #[.int .i64 len, .slice C l.length q] w fun r w' => r = .returned (.bool true) ∧ Below w.heap.size w w' := by
  have O1 := hide o1
  have O2 := hide o1
  have O3 := hide o1
  have _u := hr
  clear o1 hr _u
  go_enter Tryd.func4, Tryd.ntmps4
  go_wp2_with (first
    | (go_at_call 15; refine (awake_c _ hT).mono ?_; rintro e w1 ⟨rfl, hb1⟩)
    | (go_at_call 26; refine (within_c _ _ _ _).mono ?_; rintro e_ w_ ⟨rfl, rfl⟩; first | rw [O1.out] | rw [O2.out] | rw [O3.out])
    | (go_at_call 16; refine (few_c _ _ _ _).mono ?_; rintro e_ w_ ⟨rfl, rfl⟩)
    )
  go_ret
  exact ⟨rfl, hb1⟩

theorem searches_2 (len : Int) (l : List Int) (C : Option Addr) (q : Nat) (w : World) (hT : Tab w) (hr : Rd w C (ints l)) (o1 : outB len 9 10 = true) (o2 : outB (l.length : Int) 9 10 = false) :
    Calls Tryd.prog 4 #[.int .i64 len, .slice C l.length q] w fun r w' => r = .returned (.bool true) ∧ Below w.heap.size w w' := by
  have O1 := hide o1
  have O2 := hide o2
  have O3 := hide o1
  have _u := hr
  clear o1 o2 hr _u
  go_enter Tryd.func4, Tryd.ntmps4
  go_wp2_with (first
    | (go_at_call 15; refine (awake_c _ hT).mono ?_; rintro e w1 ⟨rfl, hb1⟩)
    | (go_at_call 26; refine (within_c _ _ _ _).mono ?_; rintro e_ w_ ⟨rfl, rfl⟩; first | rw [O1.out] | rw [O2.out] | rw [O3.out])
    | (go_at_call 16; refine (few_c _ _ _ _).mono ?_; rintro e_ w_ ⟨rfl, rfl⟩)
    )
  go_ret
  exact ⟨rfl, hb1⟩

theorem searches_3 (len : Int) (l : List Int) (C : Option Addr) (q : Nat) (w : World) (hT : Tab w) (hr : Rd w C (ints l)) (o1 : outB len 9 10 = true) (o2 : outB (l.length : Int) 9 10 = true) (o4 : 34 < l.length) :
    Calls Tryd.prog 4 #[.int .i64 len, .slice C l.length q] w fun r w' => r = .returned (.bool true) ∧ Below w.heap.size w w' := by
  have O1 := hide o1
  have O2 := hide o2
  have O3 := hide o1
  have d34 : decide ((l.length : Int) ≤ 34) = false := by simp; omega
  have _u := hr
  clear o1 o2 o4 hr _u
  go_enter Tryd.func4, Tryd.ntmps4
  go_wp2_with (first
    | (go_at_call 15; refine (awake_c _ hT).mono ?_; rintro e w1 ⟨rfl, hb1⟩)
    | (go_at_call 26; refine (within_c _ _ _ _).mono ?_; rintro e_ w_ ⟨rfl, rfl⟩; first | rw [O1.out] | rw [O2.out] | rw [O3.out])
    | (go_at_call 16; refine (few_c _ _ _ _).mono ?_; rintro e_ w_ ⟨rfl, rfl⟩)
    )
  go_ret
  exact ⟨rfl, hb1⟩

theorem partL_range_le (l : List Int) (hl : l.length ≤ 10) : (partL l (List.range (2 ^ l.length))).length ≤ 1100 := by
  have h1 := partL_length l (List.range (2 ^ l.length))
  have h2 : 2 ^ l.length ≤ 2 ^ 10 := Nat.pow_le_pow_right (by omega) hl
  rw [List.length_range] at h1
  omega
theorem partL_len {l : List Int} {bs : List Nat} : ∀ m ∈ partL l bs, m.length = l.length := by
  intro m hm
  obtain ⟨b, _, rfl⟩ := List.mem_map.1 hm
  exact codeL_length _ _

set_option maxHeartbeats 1000000 in
theorem searches_A1 (len : Int) (l : List Int) (C : Option Addr) (q : Nat) (w : World) (hT : Tab w) (hr : Rd w C (ints l)) (o1 : outB len 9 10 = true) (o2 : outB (l.length : Int) 9 10 = true) (o4 : l.length ≤ 34) (o3 : outB len 1 10 = true) (hc : codeE l ≠ 0) :
    Calls Tryd.prog 4 #[.int .i64 len, .slice C l.length q] w fun r w' => r = .returned (.bool true) ∧ Below w.heap.size w w' := by
  have HFB := hide (fun W => firstBest_err len W o3)
  have O1 := hide o1
  have O2 := hide o2
  have O3 := hide o3
  have d34 : decide ((l.length : Int) ≤ 34) = true := by simp; omega
  have hp : partE l = codeE l := by unfold partE firstE; rw [if_neg hc]
  have HPA := hide (fun (A : Option Addr) (c : Nat) W h => (partners_c l A c W h (by omega)).mono (fun r w' (h : _ ∧ _) => show r = .returned (.tuple #[.slice none 0 0, .int .i64 (codeE l)]) ∧ Below W.heap.size W w' from ⟨(by rcases h.1 with ⟨_, h⟩ | ⟨h, _⟩; rw [hp] at h; exact h; exact absurd h (by rw [hp]; exact hc)), h.2⟩))
  have HCK := hide (fun W h => refCheckCode_c l C q W h (by omega))
  have e1 : (codeE l != 0) = true := by simpa using hc
  have e2 : (codeE l == 0) = false := by simpa using hc
  clear hc hp
  generalize codeE l = E at HPA HCK e1 e2
  clear o1 o2 o3
  go_enter Tryd.func4, Tryd.ntmps4
  go_wp2_with (first
    | (go_at_call 15; refine (awake_c _ hT).mono ?_; rintro e w1 ⟨rfl, hb1⟩)
    | (go_at_call 26; refine (within_c _ _ _ _).mono ?_; rintro e_ w_ ⟨rfl, rfl⟩; first | rw [O1.out] | rw [O2.out] | rw [O3.out])
    | (go_at_call 16; refine (few_c _ _ _ _).mono ?_; rintro e_ w_ ⟨rfl, rfl⟩)
    | (go_at_call 28; refine (HFB.out _).mono ?_; rintro e w2 ⟨rfl, hb2⟩)
    | (go_at_call 18; refine (copyInts_c l C q _ ((hr.bel hb1).bel hb2) (by omega)).mono ?_; rintro e w3 ⟨⟨C3, q3, rfl, hC3⟩, hb3⟩)
    | (go_at_call 29; refine (HPA.out C3 q3 _ hC3.1).mono ?_; rintro e w4 ⟨rfl, hb4⟩)
    | (go_at_call 21; refine (HCK.out _ ((((hr.bel hb1).bel hb2).bel hb3).bel hb4)).mono ?_; rintro e_ w_ ⟨rfl, rfl⟩)
    )
  go_ret
  exact ⟨rfl, (tr (tr (tr hb1 hb2 hb1.size) hb3 (tr hb1 hb2 hb1.size).size) hb4 (tr (tr hb1 hb2 hb1.size) hb3 (tr hb1 hb2 hb1.size).size).size)⟩

set_option maxHeartbeats 1000000 in
theorem searches_A2 (len : Int) (l : List Int) (C : Option Addr) (q : Nat) (w : World) (hT : Tab w) (hr : Rd w C (ints l)) (o1 : outB len 9 10 = true) (o2 : outB (l.length : Int) 9 10 = true) (o4 : l.length ≤ 34) (o3 : outB len 1 10 = true) (hc : codeE l = 0) (h10 : 10 < l.length) :
    Calls Tryd.prog 4 #[.int .i64 len, .slice C l.length q] w fun r w' => r = .returned (.bool true) ∧ Below w.heap.size w w' := by
  have HFB := hide (fun W => firstBest_err len W o3)
  have O1 := hide o1
  have O2 := hide o2
  have O3 := hide o3
  have d34 : decide ((l.length : Int) ≤ 34) = true := by simp; omega
  have hp : partE l = 8 := by
    unfold partE firstE; rw [if_pos hc]; unfold firstE errIf; rw [if_neg]
    · simp; omega
    · simp; omega
  have HPA := hide (fun (A : Option Addr) (c : Nat) W h => (partners_c l A c W h (by omega)).mono (fun r w' (h : _ ∧ _) => show r = .returned (.tuple #[.slice none 0 0, .int .i64 8]) ∧ Below W.heap.size W w' from ⟨(by rcases h.1 with ⟨_, h⟩ | ⟨h, _⟩; rw [hp] at h; exact h; rw [hp] at h; cases h), h.2⟩))
  have HCK := hide (fun W h => refCheckCode_c l C q W h (by omega))
  rw [hc] at HCK
  have d10 : decide ((10 : Int) < (l.length : Int)) = true := by simp; omega
  clear hc hp h10
  clear o1 o2 o3
  go_enter Tryd.func4, Tryd.ntmps4
  go_wp2_with (first
    | (go_at_call 15; refine (awake_c _ hT).mono ?_; rintro e w1 ⟨rfl, hb1⟩)
    | (go_at_call 26; refine (within_c _ _ _ _).mono ?_; rintro e_ w_ ⟨rfl, rfl⟩; first | rw [O1.out] | rw [O2.out] | rw [O3.out])
    | (go_at_call 16; refine (few_c _ _ _ _).mono ?_; rintro e_ w_ ⟨rfl, rfl⟩)
    | (go_at_call 28; refine (HFB.out _).mono ?_; rintro e w2 ⟨rfl, hb2⟩)
    | (go_at_call 18; refine (copyInts_c l C q _ ((hr.bel hb1).bel hb2) (by omega)).mono ?_; rintro e w3 ⟨⟨C3, q3, rfl, hC3⟩, hb3⟩)
    | (go_at_call 29; refine (HPA.out C3 q3 _ hC3.1).mono ?_; rintro e w4 ⟨rfl, hb4⟩)
    | (go_at_call 21; refine (HCK.out _ ((((hr.bel hb1).bel hb2).bel hb3).bel hb4)).mono ?_; rintro e_ w_ ⟨rfl, rfl⟩)
    )
  go_ret
  exact ⟨rfl, (tr (tr (tr hb1 hb2 hb1.size) hb3 (tr hb1 hb2 hb1.size).size) hb4 (tr (tr hb1 hb2 hb1.size) hb3 (tr hb1 hb2 hb1.size).size).size)⟩

set_option maxHeartbeats 1000000 in
theorem searches_A3 (len : Int) (l : List Int) (C : Option Addr) (q : Nat) (w : World) (hT : Tab w) (hr : Rd w C (ints l)) (o1 : outB len 9 10 = true) (o2 : outB (l.length : Int) 9 10 = true) (o4 : l.length ≤ 34) (o3 : outB len 1 10 = true) (hc : codeE l = 0) (h10 : l.length ≤ 10) :
    Calls Tryd.prog 4 #[.int .i64 len, .slice C l.length q] w fun r w' => r = .returned (.bool true) ∧ Below w.heap.size w w' := by
  have HFB := hide (fun W => firstBest_err len W o3)
  have O1 := hide o1
  have O2 := hide o2
  have O3 := hide o3
  have d34 : decide ((l.length : Int) ≤ 34) = true := by simp; omega
  have hp : partE l = 0 := by
    unfold partE firstE; rw [if_pos hc]; unfold firstE errIf; rw [if_pos]
    · rfl
    · simp; omega
  have HPA := hide (fun (A : Option Addr) (c : Nat) W h => (partners_c l A c W h (by omega)).mono (fun r w' (h : _ ∧ _) => show (∃ (A' : Option Addr) (c' : Nat) (vs : List Value), r = .returned (.tuple #[.slice A' vs.length c', .int .i64 0]) ∧ Rd w' A' vs ∧ Lists w' vs (partL l (List.range (2 ^ l.length)))) ∧ Below W.heap.size W w' from ⟨(by rcases h.1 with ⟨h, _⟩ | ⟨_, h⟩; exact absurd hp h; exact h), h.2⟩))
  have HCK := hide (fun W h => refCheckCode_c l C q W h (by omega))
  have HRP := hide (fun W h => refPartnersOf_c l C q W h hc h10)
  have hpl := partL_range_le l h10
  have HIT := hide (fun m (hm : m ∈ partL l (List.range (2 ^ l.length))) => show m.length ≤ 1000 by rw [partL_len m hm]; omega)
  rw [hc] at HCK
  have d10 : decide ((10 : Int) < (l.length : Int)) = false := by simp; omega
  clear hc hp h10
  generalize partL l (List.range (2 ^ l.length)) = LL at HPA HRP hpl HIT
  clear o1 o2 o3
  go_enter Tryd.func4, Tryd.ntmps4
  go_wp2_with (first
    | (go_at_call 15; refine (awake_c _ hT).mono ?_; rintro e w1 ⟨rfl, hb1⟩)
    | (go_at_call 26; refine (within_c _ _ _ _).mono ?_; rintro e_ w_ ⟨rfl, rfl⟩; first | rw [O1.out] | rw [O2.out] | rw [O3.out])
    | (go_at_call 16; refine (few_c _ _ _ _).mono ?_; rintro e_ w_ ⟨rfl, rfl⟩)
    | (go_at_call 28; refine (HFB.out _).mono ?_; rintro e w2 ⟨rfl, hb2⟩)
    | (go_at_call 18; refine (copyInts_c l C q _ ((hr.bel hb1).bel hb2) (by omega)).mono ?_; rintro e w3 ⟨⟨C3, q3, rfl, hC3⟩, hb3⟩)
    | (go_at_call 29; refine (HPA.out C3 q3 _ hC3.1).mono ?_; rintro e w4 ⟨⟨A4, c4, vs, rfl, hA4, hL4⟩, hb4⟩)
    | (go_at_call 21; refine (HCK.out _ ((((hr.bel hb1).bel hb2).bel hb3).bel hb4)).mono ?_; rintro e_ w_ ⟨rfl, rfl⟩)
    | (go_at_call 33; refine (HRP.out _ ((((hr.bel hb1).bel hb2).bel hb3).bel hb4)).mono ?_; rintro e w8 ⟨⟨A8, c8, ws, rfl, hA8, hL8⟩, hb8⟩)
    | (go_at_call 32; refine (lists_c vs ws LL LL A4 A8 c4 c8 _ (hA4.bel hb8) hA8 (hL4.keep fun _ _ h => h.bel hb8) hL8 (by rw [hL4.length]; exact hpl) (by rw [hL8.length]; exact hpl) HIT.out).mono ?_; rintro e w9 ⟨rfl, hb9⟩; rw [decide_eq_true rfl])
    )
  go_ret
  exact ⟨rfl, (tr (tr (tr (tr (tr hb1 hb2 hb1.size) hb3 (tr hb1 hb2 hb1.size).size) hb4 (tr (tr hb1 hb2 hb1.size) hb3 (tr hb1 hb2 hb1.size).size).size) hb8 (tr (tr (tr hb1 hb2 hb1.size) hb3 (tr hb1 hb2 hb1.size).size) hb4 (tr (tr hb1 hb2 hb1.size) hb3 (tr hb1 hb2 hb1.size).size).size).size) hb9 (tr (tr (tr (tr hb1 hb2 hb1.size) hb3 (tr hb1 hb2 hb1.size).size) hb4 (tr (tr hb1 hb2 hb1.size) hb3 (tr hb1 hb2 hb1.size).size).size) hb8 (tr (tr (tr hb1 hb2 hb1.size) hb3 (tr hb1 hb2 hb1.size).size) hb4 (tr (tr hb1 hb2 hb1.size) hb3 (tr hb1 hb2 hb1.size).size).size).size).size)⟩

set_option maxHeartbeats 1000000 in
theorem searches_B1 (len : Int) (l : List Int) (C : Option Addr) (q : Nat) (w : World) (hT : Tab w) (hr : Rd w C (ints l)) (o1 : outB len 9 10 = true) (o2 : outB (l.length : Int) 9 10 = true) (o4 : l.length ≤ 34) (o3 : outB len 1 10 = false) (hc : codeE l ≠ 0) :
    Calls Tryd.prog 4 #[.int .i64 len, .slice C l.length q] w fun r w' => r = .returned (.bool true) ∧ Below w.heap.size w w' := by
  obtain ⟨g1, g2⟩ := outB_false.1 o3
  obtain ⟨n, rfl⟩ : ∃ n : Nat, len = n := ⟨len.toNat, by omega⟩
  obtain ⟨b, s, hbs⟩ := bestS_some (len := n) (by omega) (2 ^ n) Nat.one_le_two_pow
  have HFB := hide (fun W => (firstBest_ok n (by omega) (by omega) W).mono (fun r w' (h : _ ∧ _) => show (∃ (A : Option Addr) (c : Nat), r = .returned (.tuple #[.slice A n c, .int .i64 s, .int .i64 0]) ∧ RdT w' 3 A (ints (codeL b n))) ∧ Below W.heap.size W w' from ⟨(by obtain ⟨b', s', A, c, e1, e2, e3⟩ := h.1; rw [hbs] at e1; injection e1 with e4 e5; injection e4 with e4; subst e4 e5; exact ⟨A, c, e2, e3⟩), h.2⟩))
  have HRB := hide (fun W => (refFirstBest_c n (by omega) (by omega) W).mono (fun r w' (h : _ ∧ _) => show (∃ (A : Option Addr) (c : Nat), r = .returned (.tuple #[.slice A n c, .int .i64 s]) ∧ RdT w' 3 A (ints (codeL b n))) ∧ Below W.heap.size W w' from ⟨(by obtain ⟨b', s', A, c, e1, e2, e3⟩ := h.1; rw [hbs] at e1; injection e1 with e4 e5; injection e4 with e4; subst e4 e5; exact ⟨A, c, e2, e3⟩), h.2⟩))
  have HIS := hide (fun (A B : Option Addr) (c d : Nat) W h1 h2 => ints_same (codeL b n) A B c d W h1 h2 (by rw [codeL_length]; omega))
  simp only [codeL_length] at HIS
  have HIS := hide HIS.out
  clear hbs g1 g2
  have O1 := hide o1
  have O2 := hide o2
  have O3 := hide o3
  have d34 : decide ((l.length : Int) ≤ 34) = true := by simp; omega
  have hp : partE l = codeE l := by unfold partE firstE; rw [if_neg hc]
  have HPA := hide (fun (A : Option Addr) (c : Nat) W h => (partners_c l A c W h (by omega)).mono (fun r w' (h : _ ∧ _) => show r = .returned (.tuple #[.slice none 0 0, .int .i64 (codeE l)]) ∧ Below W.heap.size W w' from ⟨(by rcases h.1 with ⟨_, h⟩ | ⟨h, _⟩; rw [hp] at h; exact h; exact absurd h (by rw [hp]; exact hc)), h.2⟩))
  have HCK := hide (fun W h => refCheckCode_c l C q W h (by omega))
  have e1 : (codeE l != 0) = true := by simpa using hc
  have e2 : (codeE l == 0) = false := by simpa using hc
  clear hc hp
  generalize codeE l = E at HPA HCK e1 e2
  clear o1 o2 o3
  go_enter Tryd.func4, Tryd.ntmps4
  go_wp2_with (first
    | (go_at_call 15; refine (awake_c _ hT).mono ?_; rintro e w1 ⟨rfl, hb1⟩)
    | (go_at_call 26; refine (within_c _ _ _ _).mono ?_; rintro e_ w_ ⟨rfl, rfl⟩; first | rw [O1.out] | rw [O2.out] | rw [O3.out])
    | (go_at_call 16; refine (few_c _ _ _ _).mono ?_; rintro e_ w_ ⟨rfl, rfl⟩)
    | (go_at_call 28; refine (HFB.out _).mono ?_; rintro e w2 ⟨⟨A2, c2, rfl, hA2⟩, hb2⟩)
    | (go_at_call 30; refine (HRB.out _).mono ?_; rintro e w6 ⟨⟨A6, c6, rfl, hA6⟩, hb6⟩)
    | (go_at_call 31; refine (HIS.out A2 A6 c2 c6 _ (((hA2.bel hb3).bel hb4).bel hb6).1 hA6.1).mono ?_; rintro e w7 ⟨rfl, hb7⟩)
    | (go_at_call 18; refine (copyInts_c l C q _ ((hr.bel hb1).bel hb2) (by omega)).mono ?_; rintro e w3 ⟨⟨C3, q3, rfl, hC3⟩, hb3⟩)
    | (go_at_call 29; refine (HPA.out C3 q3 _ hC3.1).mono ?_; rintro e w4 ⟨rfl, hb4⟩)
    | (go_at_call 21; refine (HCK.out _ ((((((hr.bel hb1).bel hb2).bel hb3).bel hb4).bel hb6).bel hb7)).mono ?_; rintro e_ w_ ⟨rfl, rfl⟩)
    )
  go_ret
  exact ⟨rfl, (tr (tr (tr (tr (tr hb1 hb2 hb1.size) hb3 (tr hb1 hb2 hb1.size).size) hb4 (tr (tr hb1 hb2 hb1.size) hb3 (tr hb1 hb2 hb1.size).size).size) hb6 (tr (tr (tr hb1 hb2 hb1.size) hb3 (tr hb1 hb2 hb1.size).size) hb4 (tr (tr hb1 hb2 hb1.size) hb3 (tr hb1 hb2 hb1.size).size).size).size) hb7 (tr (tr (tr (tr hb1 hb2 hb1.size) hb3 (tr hb1 hb2 hb1.size).size) hb4 (tr (tr hb1 hb2 hb1.size) hb3 (tr hb1 hb2 hb1.size).size).size) hb6 (tr (tr (tr hb1 hb2 hb1.size) hb3 (tr hb1 hb2 hb1.size).size) hb4 (tr (tr hb1 hb2 hb1.size) hb3 (tr hb1 hb2 hb1.size).size).size).size).size)⟩

set_option maxHeartbeats 1000000 in
theorem searches_B2 (len : Int) (l : List Int) (C : Option Addr) (q : Nat) (w : World) (hT : Tab w) (hr : Rd w C (ints l)) (o1 : outB len 9 10 = true) (o2 : outB (l.length : Int) 9 10 = true) (o4 : l.length ≤ 34) (o3 : outB len 1 10 = false) (hc : codeE l = 0) (h10 : 10 < l.length) :
    Calls Tryd.prog 4 #[.int .i64 len, .slice C l.length q] w fun r w' => r = .returned (.bool true) ∧ Below w.heap.size w w' := by
  obtain ⟨g1, g2⟩ := outB_false.1 o3
  obtain ⟨n, rfl⟩ : ∃ n : Nat, len = n := ⟨len.toNat, by omega⟩
  obtain ⟨b, s, hbs⟩ := bestS_some (len := n) (by omega) (2 ^ n) Nat.one_le_two_pow
  have HFB := hide (fun W => (firstBest_ok n (by omega) (by omega) W).mono (fun r w' (h : _ ∧ _) => show (∃ (A : Option Addr) (c : Nat), r = .returned (.tuple #[.slice A n c, .int .i64 s, .int .i64 0]) ∧ RdT w' 3 A (ints (codeL b n))) ∧ Below W.heap.size W w' from ⟨(by obtain ⟨b', s', A, c, e1, e2, e3⟩ := h.1; rw [hbs] at e1; injection e1 with e4 e5; injection e4 with e4; subst e4 e5; exact ⟨A, c, e2, e3⟩), h.2⟩))
  have HRB := hide (fun W => (refFirstBest_c n (by omega) (by omega) W).mono (fun r w' (h : _ ∧ _) => show (∃ (A : Option Addr) (c : Nat), r = .returned (.tuple #[.slice A n c, .int .i64 s]) ∧ RdT w' 3 A (ints (codeL b n))) ∧ Below W.heap.size W w' from ⟨(by obtain ⟨b', s', A, c, e1, e2, e3⟩ := h.1; rw [hbs] at e1; injection e1 with e4 e5; injection e4 with e4; subst e4 e5; exact ⟨A, c, e2, e3⟩), h.2⟩))
  have HIS := hide (fun (A B : Option Addr) (c d : Nat) W h1 h2 => ints_same (codeL b n) A B c d W h1 h2 (by rw [codeL_length]; omega))
  simp only [codeL_length] at HIS
  have HIS := hide HIS.out
  clear hbs g1 g2
  have O1 := hide o1
  have O2 := hide o2
  have O3 := hide o3
  have d34 : decide ((l.length : Int) ≤ 34) = true := by simp; omega
  have hp : partE l = 8 := by
    unfold partE firstE; rw [if_pos hc]; unfold firstE errIf; rw [if_neg]
    · simp; omega
    · simp; omega
  have HPA := hide (fun (A : Option Addr) (c : Nat) W h => (partners_c l A c W h (by omega)).mono (fun r w' (h : _ ∧ _) => show r = .returned (.tuple #[.slice none 0 0, .int .i64 8]) ∧ Below W.heap.size W w' from ⟨(by rcases h.1 with ⟨_, h⟩ | ⟨h, _⟩; rw [hp] at h; exact h; rw [hp] at h; cases h), h.2⟩))
  have HCK := hide (fun W h => refCheckCode_c l C q W h (by omega))
  rw [hc] at HCK
  have d10 : decide ((10 : Int) < (l.length : Int)) = true := by simp; omega
  clear hc hp h10
  clear o1 o2 o3
  go_enter Tryd.func4, Tryd.ntmps4
  go_wp2_with (first
    | (go_at_call 15; refine (awake_c _ hT).mono ?_; rintro e w1 ⟨rfl, hb1⟩)
    | (go_at_call 26; refine (within_c _ _ _ _).mono ?_; rintro e_ w_ ⟨rfl, rfl⟩; first | rw [O1.out] | rw [O2.out] | rw [O3.out])
    | (go_at_call 16; refine (few_c _ _ _ _).mono ?_; rintro e_ w_ ⟨rfl, rfl⟩)
    | (go_at_call 28; refine (HFB.out _).mono ?_; rintro e w2 ⟨⟨A2, c2, rfl, hA2⟩, hb2⟩)
    | (go_at_call 30; refine (HRB.out _).mono ?_; rintro e w6 ⟨⟨A6, c6, rfl, hA6⟩, hb6⟩)
    | (go_at_call 31; refine (HIS.out A2 A6 c2 c6 _ (((hA2.bel hb3).bel hb4).bel hb6).1 hA6.1).mono ?_; rintro e w7 ⟨rfl, hb7⟩)
    | (go_at_call 18; refine (copyInts_c l C q _ ((hr.bel hb1).bel hb2) (by omega)).mono ?_; rintro e w3 ⟨⟨C3, q3, rfl, hC3⟩, hb3⟩)
    | (go_at_call 29; refine (HPA.out C3 q3 _ hC3.1).mono ?_; rintro e w4 ⟨rfl, hb4⟩)
    | (go_at_call 21; refine (HCK.out _ ((((((hr.bel hb1).bel hb2).bel hb3).bel hb4).bel hb6).bel hb7)).mono ?_; rintro e_ w_ ⟨rfl, rfl⟩)
    )
  go_ret
  exact ⟨rfl, (tr (tr (tr (tr (tr hb1 hb2 hb1.size) hb3 (tr hb1 hb2 hb1.size).size) hb4 (tr (tr hb1 hb2 hb1.size) hb3 (tr hb1 hb2 hb1.size).size).size) hb6 (tr (tr (tr hb1 hb2 hb1.size) hb3 (tr hb1 hb2 hb1.size).size) hb4 (tr (tr hb1 hb2 hb1.size) hb3 (tr hb1 hb2 hb1.size).size).size).size) hb7 (tr (tr (tr (tr hb1 hb2 hb1.size) hb3 (tr hb1 hb2 hb1.size).size) hb4 (tr (tr hb1 hb2 hb1.size) hb3 (tr hb1 hb2 hb1.size).size).size) hb6 (tr (tr (tr hb1 hb2 hb1.size) hb3 (tr hb1 hb2 hb1.size).size) hb4 (tr (tr hb1 hb2 hb1.size) hb3 (tr hb1 hb2 hb1.size).size).size).size).size)⟩

set_option maxHeartbeats 1000000 in
theorem searches_B3 (len : Int) (l : List Int) (C : Option Addr) (q : Nat) (w : World) (hT : Tab w) (hr : Rd w C (ints l)) (o1 : outB len 9 10 = true) (o2 : outB (l.length : Int) 9 10 = true) (o4 : l.length ≤ 34) (o3 : outB len 1 10 = false) (hc : codeE l = 0) (h10 : l.length ≤ 10) :
    Calls Tryd.prog 4 #[.int .i64 len, .slice C l.length q] w fun r w' => r = .returned (.bool true) ∧ Below w.heap.size w w' := by
  obtain ⟨g1, g2⟩ := outB_false.1 o3
  obtain ⟨n, rfl⟩ : ∃ n : Nat, len = n := ⟨len.toNat, by omega⟩
  obtain ⟨b, s, hbs⟩ := bestS_some (len := n) (by omega) (2 ^ n) Nat.one_le_two_pow
  have HFB := hide (fun W => (firstBest_ok n (by omega) (by omega) W).mono (fun r w' (h : _ ∧ _) => show (∃ (A : Option Addr) (c : Nat), r = .returned (.tuple #[.slice A n c, .int .i64 s, .int .i64 0]) ∧ RdT w' 3 A (ints (codeL b n))) ∧ Below W.heap.size W w' from ⟨(by obtain ⟨b', s', A, c, e1, e2, e3⟩ := h.1; rw [hbs] at e1; injection e1 with e4 e5; injection e4 with e4; subst e4 e5; exact ⟨A, c, e2, e3⟩), h.2⟩))
  have HRB := hide (fun W => (refFirstBest_c n (by omega) (by omega) W).mono (fun r w' (h : _ ∧ _) => show (∃ (A : Option Addr) (c : Nat), r = .returned (.tuple #[.slice A n c, .int .i64 s]) ∧ RdT w' 3 A (ints (codeL b n))) ∧ Below W.heap.size W w' from ⟨(by obtain ⟨b', s', A, c, e1, e2, e3⟩ := h.1; rw [hbs] at e1; injection e1 with e4 e5; injection e4 with e4; subst e4 e5; exact ⟨A, c, e2, e3⟩), h.2⟩))
  have HIS := hide (fun (A B : Option Addr) (c d : Nat) W h1 h2 => ints_same (codeL b n) A B c d W h1 h2 (by rw [codeL_length]; omega))
  simp only [codeL_length] at HIS
  have HIS := hide HIS.out
  clear hbs g1 g2
  have O1 := hide o1
  have O2 := hide o2
  have O3 := hide o3
  have d34 : decide ((l.length : Int) ≤ 34) = true := by simp; omega
  have hp : partE l = 0 := by
    unfold partE firstE; rw [if_pos hc]; unfold firstE errIf; rw [if_pos]
    · rfl
    · simp; omega
  have HPA := hide (fun (A : Option Addr) (c : Nat) W h => (partners_c l A c W h (by omega)).mono (fun r w' (h : _ ∧ _) => show (∃ (A' : Option Addr) (c' : Nat) (vs : List Value), r = .returned (.tuple #[.slice A' vs.length c', .int .i64 0]) ∧ Rd w' A' vs ∧ Lists w' vs (partL l (List.range (2 ^ l.length)))) ∧ Below W.heap.size W w' from ⟨(by rcases h.1 with ⟨h, _⟩ | ⟨_, h⟩; exact absurd hp h; exact h), h.2⟩))
  have HCK := hide (fun W h => refCheckCode_c l C q W h (by omega))
  have HRP := hide (fun W h => refPartnersOf_c l C q W h hc h10)
  have hpl := partL_range_le l h10
  have HIT := hide (fun m (hm : m ∈ partL l (List.range (2 ^ l.length))) => show m.length ≤ 1000 by rw [partL_len m hm]; omega)
  rw [hc] at HCK
  have d10 : decide ((10 : Int) < (l.length : Int)) = false := by simp; omega
  clear hc hp h10
  generalize partL l (List.range (2 ^ l.length)) = LL at HPA HRP hpl HIT
  clear o1 o2 o3
  go_enter Tryd.func4, Tryd.ntmps4
  go_wp2_with (first
    | (go_at_call 15; refine (awake_c _ hT).mono ?_; rintro e w1 ⟨rfl, hb1⟩)
    | (go_at_call 26; refine (within_c _ _ _ _).mono ?_; rintro e_ w_ ⟨rfl, rfl⟩; first | rw [O1.out] | rw [O2.out] | rw [O3.out])
    | (go_at_call 16; refine (few_c _ _ _ _).mono ?_; rintro e_ w_ ⟨rfl, rfl⟩)
    | (go_at_call 28; refine (HFB.out _).mono ?_; rintro e w2 ⟨⟨A2, c2, rfl, hA2⟩, hb2⟩)
    | (go_at_call 30; refine (HRB.out _).mono ?_; rintro e w6 ⟨⟨A6, c6, rfl, hA6⟩, hb6⟩)
    | (go_at_call 31; refine (HIS.out A2 A6 c2 c6 _ (((hA2.bel hb3).bel hb4).bel hb6).1 hA6.1).mono ?_; rintro e w7 ⟨rfl, hb7⟩)
    | (go_at_call 18; refine (copyInts_c l C q _ ((hr.bel hb1).bel hb2) (by omega)).mono ?_; rintro e w3 ⟨⟨C3, q3, rfl, hC3⟩, hb3⟩)
    | (go_at_call 29; refine (HPA.out C3 q3 _ hC3.1).mono ?_; rintro e w4 ⟨⟨A4, c4, vs, rfl, hA4, hL4⟩, hb4⟩)
    | (go_at_call 21; refine (HCK.out _ ((((((hr.bel hb1).bel hb2).bel hb3).bel hb4).bel hb6).bel hb7)).mono ?_; rintro e_ w_ ⟨rfl, rfl⟩)
    | (go_at_call 33; refine (HRP.out _ ((((((hr.bel hb1).bel hb2).bel hb3).bel hb4).bel hb6).bel hb7)).mono ?_; rintro e w8 ⟨⟨A8, c8, ws, rfl, hA8, hL8⟩, hb8⟩)
    | (go_at_call 32; refine (lists_c vs ws LL LL A4 A8 c4 c8 _ (((hA4.bel hb6).bel hb7).bel hb8) hA8 (hL4.keep fun _ _ h => ((h.bel hb6).bel hb7).bel hb8) hL8 (by rw [hL4.length]; exact hpl) (by rw [hL8.length]; exact hpl) HIT.out).mono ?_; rintro e w9 ⟨rfl, hb9⟩; rw [decide_eq_true rfl])
    )
  go_ret
  exact ⟨rfl, (tr (tr (tr (tr (tr (tr (tr hb1 hb2 hb1.size) hb3 (tr hb1 hb2 hb1.size).size) hb4 (tr (tr hb1 hb2 hb1.size) hb3 (tr hb1 hb2 hb1.size).size).size) hb6 (tr (tr (tr hb1 hb2 hb1.size) hb3 (tr hb1 hb2 hb1.size).size) hb4 (tr (tr hb1 hb2 hb1.size) hb3 (tr hb1 hb2 hb1.size).size).size).size) hb7 (tr (tr (tr (tr hb1 hb2 hb1.size) hb3 (tr hb1 hb2 hb1.size).size) hb4 (tr (tr hb1 hb2 hb1.size) hb3 (tr hb1 hb2 hb1.size).size).size) hb6 (tr (tr (tr hb1 hb2 hb1.size) hb3 (tr hb1 hb2 hb1.size).size) hb4 (tr (tr hb1 hb2 hb1.size) hb3 (tr hb1 hb2 hb1.size).size).size).size).size) hb8 (tr (tr (tr (tr (tr hb1 hb2 hb1.size) hb3 (tr hb1 hb2 hb1.size).size) hb4 (tr (tr hb1 hb2 hb1.size) hb3 (tr hb1 hb2 hb1.size).size).size) hb6 (tr (tr (tr hb1 hb2 hb1.size) hb3 (tr hb1 hb2 hb1.size).size) hb4 (tr (tr hb1 hb2 hb1.size) hb3 (tr hb1 hb2 hb1.size).size).size).size) hb7 (tr (tr (tr (tr hb1 hb2 hb1.size) hb3 (tr hb1 hb2 hb1.size).size) hb4 (tr (tr hb1 hb2 hb1.size) hb3 (tr hb1 hb2 hb1.size).size).size) hb6 (tr (tr (tr hb1 hb2 hb1.size) hb3 (tr hb1 hb2 hb1.size).size) hb4 (tr (tr hb1 hb2 hb1.size) hb3 (tr hb1 hb2 hb1.size).size).size).size).size).size) hb9 (tr (tr (tr (tr (tr (tr hb1 hb2 hb1.size) hb3 (tr hb1 hb2 hb1.size).size) hb4 (tr (tr hb1 hb2 hb1.size) hb3 (tr hb1 hb2 hb1.size).size).size) hb6 (tr (tr (tr hb1 hb2 hb1.size) hb3 (tr hb1 hb2 hb1.size).size) hb4 (tr (tr hb1 hb2 hb1.size) hb3 (tr hb1 hb2 hb1.size).size).size).size) hb7 (tr (tr (tr (tr hb1 hb2 hb1.size) hb3 (tr hb1 hb2 hb1.size).size) hb4 (tr (tr hb1 hb2 hb1.size) hb3 (tr hb1 hb2 hb1.size).size).size) hb6 (tr (tr (tr hb1 hb2 hb1.size) hb3 (tr hb1 hb2 hb1.size).size) hb4 (tr (tr hb1 hb2 hb1.size) hb3 (tr hb1 hb2 hb1.size).size).size).size).size) hb8 (tr (tr (tr (tr (tr hb1 hb2 hb1.size) hb3 (tr hb1 hb2 hb1.size).size) hb4 (tr (tr hb1 hb2 hb1.size) hb3 (tr hb1 hb2 hb1.size).size).size) hb6 (tr (tr (tr hb1 hb2 hb1.size) hb3 (tr hb1 hb2 hb1.size).size) hb4 (tr (tr hb1 hb2 hb1.size) hb3 (tr hb1 hb2 hb1.size).size).size).size) hb7 (tr (tr (tr (tr hb1 hb2 hb1.size) hb3 (tr hb1 hb2 hb1.size).size) hb4 (tr (tr hb1 hb2 hb1.size) hb3 (tr hb1 hb2 hb1.size).size).size) hb6 (tr (tr (tr hb1 hb2 hb1.size) hb3 (tr hb1 hb2 hb1.size).size) hb4 (tr (tr hb1 hb2 hb1.size) hb3 (tr hb1 hb2 hb1.size).size).size).size).size).size).size)⟩

theorem searches_c (len : Int) (l : List Int) (C : Option Addr) (q : Nat) (w : World) (hT : Tab w) (hr : Rd w C (ints l)) :
    Calls Tryd.prog 4 #[.int .i64 len, .slice C l.length q] w fun r w' => r = .returned (.bool true) ∧ Below w.heap.size w w' := by
  cases o1 : outB len 9 10
  · exact searches_1 len l C q w hT hr o1
  · cases o2 : outB (l.length : Int) 9 10
    · exact searches_2 len l C q w hT hr o1 o2
    · by_cases o4 : l.length ≤ 34
      · cases o3 : outB len 1 10
        · by_cases hc : codeE l = 0
          · by_cases h10 : l.length ≤ 10
            · exact searches_B3 len l C q w hT hr o1 o2 o4 o3 hc h10
            · exact searches_B2 len l C q w hT hr o1 o2 o4 o3 hc (by omega)
          · exact searches_B1 len l C q w hT hr o1 o2 o4 o3 hc
        · by_cases hc : codeE l = 0
          · by_cases h10 : l.length ≤ 10
            · exact searches_A3 len l C q w hT hr o1 o2 o4 o3 hc h10
            · exact searches_A2 len l C q w hT hr o1 o2 o4 o3 hc (by omega)
          · exact searches_A1 len l C q w hT hr o1 o2 o4 o3 hc
      · exact searches_3 len l C q w hT hr o1 o2 (by omega)
end Go.Proofs.YthkmeaibppkhmaaDoor
