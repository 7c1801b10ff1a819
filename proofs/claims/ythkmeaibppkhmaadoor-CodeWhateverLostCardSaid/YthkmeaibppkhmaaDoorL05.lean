/- The law CodeChirps: the call returns true, and nothing that was there turns. Condition: the laid table. -/
import Derived.Test.YthkmeaibppkhmaaDoorMF
import Derived.Test.YthkmeaibppkhmaaDoorMG
namespace Go.Proofs.YthkmeaibppkhmaaDoor
open Go.RowKit
set_option maxRecDepth 100000

theorem chirpE_cases (s n d : Int) : chirpE s n d = 0 ∨ chirpE s n d = 2 := by unfold chirpE; split <;> simp
theorem chirpNE_bad {s n d k lo hi : Int} (h : chirpE s n d = 2) : chirpNE s n d k lo hi = 2 := by simp [chirpNE, firstE, h]
theorem chirpNE_out {s n d k lo hi : Int} (h : chirpE s n d = 0) (hk : outB k lo hi = true) : chirpNE s n d k lo hi = 2 := by simp [chirpNE, firstE, h, hk, errIf]
theorem chirpNE_in {s n d k lo hi : Int} (h : chirpE s n d = 0) (hk : outB k lo hi = false) : chirpNE s n d k lo hi = 0 := by simp [chirpNE, firstE, h, hk, errIf]

theorem chirpAt_no {s n d t : Int} (h : chirpNE s n d t 0 1000000 = 2) (w : World) :
    Calls Tryd.prog 44 #[.agg #[.int .i64 s, .int .i64 n, .int .i64 d], .int .i64 t] w fun r w' => r = .returned (.tuple #[.int .i64 0, .int .i64 2]) ∧ Below w.heap.size w w' := by
  have h1 := chirpAt_c s n d t w
  rw [h, if_neg (by decide)] at h1
  exact h1
theorem chirpAt_yes {s n d t : Int} (h : chirpNE s n d t 0 1000000 = 0) (w : World) :
    Calls Tryd.prog 44 #[.agg #[.int .i64 s, .int .i64 n, .int .i64 d], .int .i64 t] w fun r w' => r = .returned (.tuple #[.int .i64 (freq s n d t), .int .i64 0]) ∧ Below w.heap.size w w' := by
  have h1 := chirpAt_c s n d t w
  rw [h, if_pos rfl] at h1
  exact h1
theorem risesOf_no {s n d t : Int} (h : chirpNE s n d t 0 64 = 2) (w : World) :
    Calls Tryd.prog 45 #[.agg #[.int .i64 s, .int .i64 n, .int .i64 d], .int .i64 t] w fun r w' => r = .returned (.tuple #[.slice none 0 0, .int .i64 2]) ∧ Below w.heap.size w w' := by
  refine (risesOf_c s n d t w).mono ?_
  rintro r w' ⟨h1, hb⟩
  rcases h1 with ⟨_, h1⟩ | ⟨h1, _⟩
  · exact ⟨by rw [h1, h], hb⟩
  · rw [h] at h1; cases h1
theorem risesOf_yes {s n d t : Int} (h : chirpNE s n d t 0 64 = 0) (w : World) :
    Calls Tryd.prog 45 #[.agg #[.int .i64 s, .int .i64 n, .int .i64 d], .int .i64 t] w fun r w' => (∃ A c, r = .returned (.tuple #[.slice A (risesL s n d t.toNat).length c, .int .i64 0]) ∧ RdT w' 3 A (ints (risesL s n d t.toNat))) ∧ Below w.heap.size w w' := by
  refine (risesOf_c s n d t w).mono ?_
  rintro r w' ⟨h1, hb⟩
  rcases h1 with ⟨h1, _⟩ | ⟨_, h1⟩
  · exact absurd h h1
  · exact ⟨h1, hb⟩
theorem wave_no {s n d t : Int} (h : chirpNE s n d t 1 32 = 2) (w : World) (hT : Tab w) :
    Calls Tryd.prog 46 #[.agg #[.int .i64 s, .int .i64 n, .int .i64 d], .int .i64 t] w fun r w' => r = .returned (.tuple #[.slice none 0 0, .int .i64 2]) ∧ Below w.heap.size w w' := by
  refine (chirpWave_c s n d t w hT).mono ?_
  rintro r w' ⟨h1, hb⟩
  rcases h1 with ⟨_, h1⟩ | ⟨h1, _⟩
  · exact ⟨by rw [h1, h], hb⟩
  · rw [h] at h1; cases h1
theorem wave_yes {s n d t : Int} (h : chirpNE s n d t 1 32 = 0) (w : World) (hT : Tab w) :
    Calls Tryd.prog 46 #[.agg #[.int .i64 s, .int .i64 n, .int .i64 d], .int .i64 t] w fun r w' => (∃ A c, r = .returned (.tuple #[.slice A (waveL s n d t.toNat).length c, .int .i64 0]) ∧ RdT w' 76 A (gs (waveL s n d t.toNat))) ∧ Below w.heap.size w w' := by
  refine (chirpWave_c s n d t w hT).mono ?_
  rintro r w' ⟨h1, hb⟩
  rcases h1 with ⟨h1, _⟩ | ⟨_, h1⟩
  · exact absurd h h1
  · exact ⟨h1, hb⟩

theorem ints_same (l : List Int) (A B : Option Addr) (c d : Nat) (w : World) (hr : Rd w A (ints l)) (hs : Rd w B (ints l)) (hl : l.length ≤ 1000) :
    Calls Tryd.prog 31 #[.slice A l.length c, .slice B l.length d] w fun r w' => r = .returned (.bool true) ∧ Below w.heap.size w w' := by
  have h := ints_c l l A B c d w hr hs hl
  rw [decide_eq_true rfl] at h
  exact h
theorem gausses_same (l : List (Int × Int)) (A B : Option Addr) (c d : Nat) (w : World) (hr : Rd w A (gs l)) (hs : Rd w B (gs l)) (hl : l.length ≤ 1000) :
    Calls Tryd.prog 24 #[.slice A l.length c, .slice B l.length d] w fun r w' => r = .returned (.bool true) ∧ Below w.heap.size w w' := by
  have h := gausses_c l l A B c d w hr hs hl
  rw [decide_eq_true rfl] at h
  exact h

/-- A refused chirp. -/
theorem chirps_bad (s n d tick count : Int) (w : World) (hT : Tab w) (he : chirpE s n d = 2) :
    Calls Tryd.prog 7 #[.agg #[.int .i64 s, .int .i64 n, .int .i64 d], .int .i64 tick, .int .i64 count] w fun r w' => r = .returned (.bool true) ∧ Below w.heap.size w w' := by
  have HA := hide (chirpAt_no (chirpNE_bad (k := tick) (lo := 0) (hi := 1000000) he))
  have HR := hide (risesOf_no (chirpNE_bad (k := count) (lo := 0) (hi := 64) he))
  have HW := hide (wave_no (chirpNE_bad (k := count) (lo := 1) (hi := 32) he))
  have HE := hide (refChirpErr_c s n d)
  have HK := hide (checkChirp_c s n d)
  rw [he] at HE HK
  clear he
  go_enter Tryd.func7, Tryd.ntmps7
  go_wp2_with (first
    | (go_at_call 15; refine (awake_c _ (hT.bel (alloc_bel _ _))).mono ?_; rintro e w1 ⟨rfl, hb1⟩; have hW1 : Below w.heap.size w w1 := tr (alloc_bel _ _) hb1 (by simp); have hX1 := (Blk.new w 64 [.int .i64 s, .int .i64 n, .int .i64 d]).bel hb1; have c0 := hX1.cell 0; have c1 := hX1.cell 1; have c2 := hX1.cell 2; simp only [List.getElem?_cons_zero, List.getElem?_cons_succ] at c0 c1 c2)
    | (go_at_call 44; refine (HA.out _).mono ?_; rintro e w2 ⟨rfl, hb2⟩; have hW2 := tr hW1 hb2 hW1.size; have hX2 := hX1.bel hb2; have c0 := hX2.cell 0; have c1 := hX2.cell 1; have c2 := hX2.cell 2; simp only [List.getElem?_cons_zero, List.getElem?_cons_succ] at c0 c1 c2)
    | (go_at_call 45; refine (HR.out _).mono ?_; rintro e w3 ⟨rfl, hb3⟩; have hW3 := tr hW2 hb3 hW2.size; have hX3 := hX2.bel hb3; have c0 := hX3.cell 0; have c1 := hX3.cell 1; have c2 := hX3.cell 2; simp only [List.getElem?_cons_zero, List.getElem?_cons_succ] at c0 c1 c2)
    | (go_at_call 46; refine (HW.out _ (hT.bel hW3)).mono ?_; rintro e w4 ⟨rfl, hb4⟩; have hW4 := tr hW3 hb4 hW3.size; have hX4 := hX3.bel hb4; have c0 := hX4.cell 0; have c1 := hX4.cell 1; have c2 := hX4.cell 2; simp only [List.getElem?_cons_zero, List.getElem?_cons_succ] at c0 c1 c2)
    | (go_at_call 47; refine (HE.out _).mono ?_; rintro e w5 ⟨rfl, hb5⟩; have hW5 := tr hW4 hb5 hW4.size; have hX5 := hX4.bel hb5; have c0 := hX5.cell 0; have c1 := hX5.cell 1; have c2 := hX5.cell 2; simp only [List.getElem?_cons_zero, List.getElem?_cons_succ] at c0 c1 c2)
    | (go_at_call 48; refine (HK.out _).mono ?_; rintro e w6 ⟨rfl, hb6⟩; have hW6 := tr hW5 hb6 hW5.size))
  go_ret
  exact ⟨rfl, hW6⟩


theorem chirps_1 (s n d tick count : Int) (w : World) (hT : Tab w) (he : chirpE s n d = 0) (ht : outB tick 0 1000000 = true) (hc : outB count 0 64 = true) (hd : outB count 1 32 = true) :
    Calls Tryd.prog 7 #[.agg #[.int .i64 s, .int .i64 n, .int .i64 d], .int .i64 tick, .int .i64 count] w fun r w' => r = .returned (.bool true) ∧ Below w.heap.size w w' := by
  have HA := hide (chirpAt_no (chirpNE_out he ht))
  have HR := hide (risesOf_no (chirpNE_out he hc))
  have HW := hide (wave_no (chirpNE_out he hd))
  have HE := hide (refChirpErr_c s n d)
  have HK := hide (checkChirp_c s n d)
  have HC := hide he
  obtain ⟨q1, q2, q3, q4, q5, q6⟩ := chirpE_zero he
  rw [he] at HE HK
  clear he
  go_enter Tryd.func7, Tryd.ntmps7
  go_wp2_with (first
    | (go_at_call 15; refine (awake_c _ (hT.bel (alloc_bel _ _))).mono ?_; rintro e w1 ⟨rfl, hb1⟩; have hW1 : Below w.heap.size w w1 := tr (alloc_bel _ _) hb1 (by simp); have hX1 := (Blk.new w 64 [.int .i64 s, .int .i64 n, .int .i64 d]).bel hb1; have c0 := hX1.cell 0; have c1 := hX1.cell 1; have c2 := hX1.cell 2; simp only [List.getElem?_cons_zero, List.getElem?_cons_succ] at c0 c1 c2)
    | (go_at_call 44; refine (HA.out _).mono ?_; rintro e w2 ⟨rfl, hb2⟩; have hW2 := tr hW1 hb2 hW1.size; have hX2 := hX1.bel hb2; have c0 := hX2.cell 0; have c1 := hX2.cell 1; have c2 := hX2.cell 2; simp only [List.getElem?_cons_zero, List.getElem?_cons_succ] at c0 c1 c2)
    | (go_at_call 47; refine (HE.out _).mono ?_; rintro e w5 ⟨rfl, hb5⟩; have hW5 := tr hW4 hb5 hW4.size; have hX5 := hX4.bel hb5; have U5 := tr hb4 hb5 hb4.size; have c0 := hX5.cell 0; have c1 := hX5.cell 1; have c2 := hX5.cell 2; simp only [List.getElem?_cons_zero, List.getElem?_cons_succ] at c0 c1 c2)
    | (go_at_call 48; refine (HK.out _).mono ?_; rintro e w6 ⟨rfl, hb6⟩; have hW6 := tr hW5 hb6 hW5.size; have U6 := tr U5 hb6 U5.size; have V6 := tr hb5 hb6 hb5.size; have hX6 := hX5.bel hb6; have c0 := hX6.cell 0; have c1 := hX6.cell 1; have c2 := hX6.cell 2; simp only [List.getElem?_cons_zero, List.getElem?_cons_succ] at c0 c1 c2)
    | (go_at_call 26; refine (within_c _ _ _ _).mono ?_; rintro e_ w_ ⟨rfl, rfl⟩)
    | (go_at_call 45; refine (HR.out _).mono ?_; rintro e w3 ⟨rfl, hb3⟩; have hW3 := tr hW2 hb3 hW2.size; have hX3 := hX2.bel hb3; have c0 := hX3.cell 0; have c1 := hX3.cell 1; have c2 := hX3.cell 2; simp only [List.getElem?_cons_zero, List.getElem?_cons_succ] at c0 c1 c2)
    | (go_at_call 46; refine (HW.out _ (hT.bel hW3)).mono ?_; rintro e w4 ⟨rfl, hb4⟩; have hW4 := tr hW3 hb4 hW3.size; have hX4 := hX3.bel hb4; have c0 := hX4.cell 0; have c1 := hX4.cell 1; have c2 := hX4.cell 2; simp only [List.getElem?_cons_zero, List.getElem?_cons_succ] at c0 c1 c2)
    )
  go_ret
  exact ⟨rfl, hW6⟩

theorem chirps_2 (s n d tick count : Int) (w : World) (hT : Tab w) (he : chirpE s n d = 0) (ht : outB tick 0 1000000 = false) (hc : outB count 0 64 = true) (hd : outB count 1 32 = true) :
    Calls Tryd.prog 7 #[.agg #[.int .i64 s, .int .i64 n, .int .i64 d], .int .i64 tick, .int .i64 count] w fun r w' => r = .returned (.bool true) ∧ Below w.heap.size w w' := by
  have hq := outB_false.1 ht
  have HA := hide (chirpAt_yes (chirpNE_in he ht))
  have HAR := hide (fun W => refChirpAt_c s n d tick W (chirpE_zero he).1 (chirpE_zero he).2.1 (chirpE_zero he).2.2.1 (chirpE_zero he).2.2.2.1 (chirpE_zero he).2.2.2.2.1 (chirpE_zero he).2.2.2.2.2 hq.1 hq.2)
  generalize freq s n d tick = fv at HA HAR
  have HR := hide (risesOf_no (chirpNE_out he hc))
  have HW := hide (wave_no (chirpNE_out he hd))
  have HE := hide (refChirpErr_c s n d)
  have HK := hide (checkChirp_c s n d)
  have HC := hide he
  obtain ⟨q1, q2, q3, q4, q5, q6⟩ := chirpE_zero he
  rw [he] at HE HK
  clear he
  go_enter Tryd.func7, Tryd.ntmps7
  go_wp2_with (first
    | (go_at_call 15; refine (awake_c _ (hT.bel (alloc_bel _ _))).mono ?_; rintro e w1 ⟨rfl, hb1⟩; have hW1 : Below w.heap.size w w1 := tr (alloc_bel _ _) hb1 (by simp); have hX1 := (Blk.new w 64 [.int .i64 s, .int .i64 n, .int .i64 d]).bel hb1; have c0 := hX1.cell 0; have c1 := hX1.cell 1; have c2 := hX1.cell 2; simp only [List.getElem?_cons_zero, List.getElem?_cons_succ] at c0 c1 c2)
    | (go_at_call 44; refine (HA.out _).mono ?_; rintro e w2 ⟨rfl, hb2⟩; have hW2 := tr hW1 hb2 hW1.size; have hX2 := hX1.bel hb2; have c0 := hX2.cell 0; have c1 := hX2.cell 1; have c2 := hX2.cell 2; simp only [List.getElem?_cons_zero, List.getElem?_cons_succ] at c0 c1 c2)
    | (go_at_call 47; refine (HE.out _).mono ?_; rintro e w5 ⟨rfl, hb5⟩; have hW5 := tr hW4 hb5 hW4.size; have hX5 := hX4.bel hb5; have U5 := tr hb4 hb5 hb4.size; have c0 := hX5.cell 0; have c1 := hX5.cell 1; have c2 := hX5.cell 2; simp only [List.getElem?_cons_zero, List.getElem?_cons_succ] at c0 c1 c2)
    | (go_at_call 48; refine (HK.out _).mono ?_; rintro e w6 ⟨rfl, hb6⟩; have hW6 := tr hW5 hb6 hW5.size; have U6 := tr U5 hb6 U5.size; have V6 := tr hb5 hb6 hb5.size; have hX6 := hX5.bel hb6; have c0 := hX6.cell 0; have c1 := hX6.cell 1; have c2 := hX6.cell 2; simp only [List.getElem?_cons_zero, List.getElem?_cons_succ] at c0 c1 c2)
    | (go_at_call 26; refine (within_c _ _ _ _).mono ?_; rintro e_ w_ ⟨rfl, rfl⟩)
    | (go_at_call 45; refine (HR.out _).mono ?_; rintro e w3 ⟨rfl, hb3⟩; have hW3 := tr hW2 hb3 hW2.size; have hX3 := hX2.bel hb3; have c0 := hX3.cell 0; have c1 := hX3.cell 1; have c2 := hX3.cell 2; simp only [List.getElem?_cons_zero, List.getElem?_cons_succ] at c0 c1 c2)
    | (go_at_call 46; refine (HW.out _ (hT.bel hW3)).mono ?_; rintro e w4 ⟨rfl, hb4⟩; have hW4 := tr hW3 hb4 hW3.size; have hX4 := hX3.bel hb4; have c0 := hX4.cell 0; have c1 := hX4.cell 1; have c2 := hX4.cell 2; simp only [List.getElem?_cons_zero, List.getElem?_cons_succ] at c0 c1 c2)
    | (go_at_call 49; refine (HAR.out _).mono ?_; rintro e w7 ⟨rfl, hb7⟩; have hW7 := tr hW6 hb7 hW6.size; have U7 := tr U6 hb7 U6.size; have V7 := tr V6 hb7 V6.size; have hX7 := hX6.bel hb7; have c0 := hX7.cell 0; have c1 := hX7.cell 1; have c2 := hX7.cell 2; simp only [List.getElem?_cons_zero, List.getElem?_cons_succ] at c0 c1 c2)
    )
  go_ret
  exact ⟨rfl, hW7⟩

theorem chirps_3 (s n d tick count : Int) (w : World) (hT : Tab w) (he : chirpE s n d = 0) (ht : outB tick 0 1000000 = true) (hc : outB count 0 64 = false) (hd : outB count 1 32 = true) :
    Calls Tryd.prog 7 #[.agg #[.int .i64 s, .int .i64 n, .int .i64 d], .int .i64 tick, .int .i64 count] w fun r w' => r = .returned (.bool true) ∧ Below w.heap.size w w' := by
  have HA := hide (chirpAt_no (chirpNE_out he ht))
  have hcq := outB_false.1 hc
  obtain ⟨cn, rfl⟩ : ∃ cn : Nat, count = (cn : Int) := ⟨count.toNat, by omega⟩
  have HR := hide (risesOf_yes (chirpNE_in he hc))
  have HRR := hide (fun W => refRisesOf_c s n d cn W he (by omega))
  rw [Int.toNat_natCast] at HR
  have hLR : (risesL s n d cn).length ≤ 1000 := Nat.le_trans (risesL_le s n d cn) (by omega)
  generalize risesL s n d cn = LR at HR HRR hLR
  have HW := hide (wave_no (chirpNE_out he hd))
  have HE := hide (refChirpErr_c s n d)
  have HK := hide (checkChirp_c s n d)
  have HC := hide he
  obtain ⟨q1, q2, q3, q4, q5, q6⟩ := chirpE_zero he
  rw [he] at HE HK
  clear he
  go_enter Tryd.func7, Tryd.ntmps7
  go_wp2_with (first
    | (go_at_call 15; refine (awake_c _ (hT.bel (alloc_bel _ _))).mono ?_; rintro e w1 ⟨rfl, hb1⟩; have hW1 : Below w.heap.size w w1 := tr (alloc_bel _ _) hb1 (by simp); have hX1 := (Blk.new w 64 [.int .i64 s, .int .i64 n, .int .i64 d]).bel hb1; have c0 := hX1.cell 0; have c1 := hX1.cell 1; have c2 := hX1.cell 2; simp only [List.getElem?_cons_zero, List.getElem?_cons_succ] at c0 c1 c2)
    | (go_at_call 44; refine (HA.out _).mono ?_; rintro e w2 ⟨rfl, hb2⟩; have hW2 := tr hW1 hb2 hW1.size; have hX2 := hX1.bel hb2; have c0 := hX2.cell 0; have c1 := hX2.cell 1; have c2 := hX2.cell 2; simp only [List.getElem?_cons_zero, List.getElem?_cons_succ] at c0 c1 c2)
    | (go_at_call 47; refine (HE.out _).mono ?_; rintro e w5 ⟨rfl, hb5⟩; have hW5 := tr hW4 hb5 hW4.size; have hX5 := hX4.bel hb5; have U5 := tr hb4 hb5 hb4.size; have c0 := hX5.cell 0; have c1 := hX5.cell 1; have c2 := hX5.cell 2; simp only [List.getElem?_cons_zero, List.getElem?_cons_succ] at c0 c1 c2)
    | (go_at_call 48; refine (HK.out _).mono ?_; rintro e w6 ⟨rfl, hb6⟩; have hW6 := tr hW5 hb6 hW5.size; have U6 := tr U5 hb6 U5.size; have V6 := tr hb5 hb6 hb5.size; have hX6 := hX5.bel hb6; have c0 := hX6.cell 0; have c1 := hX6.cell 1; have c2 := hX6.cell 2; simp only [List.getElem?_cons_zero, List.getElem?_cons_succ] at c0 c1 c2)
    | (go_at_call 26; refine (within_c _ _ _ _).mono ?_; rintro e_ w_ ⟨rfl, rfl⟩)
    | (go_at_call 45; refine (HR.out _).mono ?_; rintro e w3 ⟨⟨A3, C3, rfl, hr3⟩, hb3⟩; have hW3 := tr hW2 hb3 hW2.size; have hX3 := hX2.bel hb3; have c0 := hX3.cell 0; have c1 := hX3.cell 1; have c2 := hX3.cell 2; simp only [List.getElem?_cons_zero, List.getElem?_cons_succ] at c0 c1 c2)
    | (go_at_call 50; refine (HRR.out _).mono ?_; rintro e w8 ⟨⟨A8, C8, rfl, hr8⟩, hb8⟩; have hW8 := tr hW6 hb8 hW6.size; have hX8 := hX6.bel hb8; have hr38 := (hr3.bel U6).bel hb8; have V8 := tr V6 hb8 V6.size; have c0 := hX8.cell 0; have c1 := hX8.cell 1; have c2 := hX8.cell 2; simp only [List.getElem?_cons_zero, List.getElem?_cons_succ] at c0 c1 c2)
    | (go_at_call 31; refine (ints_same LR A3 A8 C3 C8 _ hr38.1 hr8.1 hLR).mono ?_; rintro e w9 ⟨rfl, hb9⟩; have hW9 := tr hW8 hb9 hW8.size; have V9 := tr V8 hb9 V8.size; have hX9 := hX8.bel hb9; have c0 := hX9.cell 0; have c1 := hX9.cell 1; have c2 := hX9.cell 2; simp only [List.getElem?_cons_zero, List.getElem?_cons_succ] at c0 c1 c2)
    | (go_at_call 46; refine (HW.out _ (hT.bel hW3)).mono ?_; rintro e w4 ⟨rfl, hb4⟩; have hW4 := tr hW3 hb4 hW3.size; have hX4 := hX3.bel hb4; have c0 := hX4.cell 0; have c1 := hX4.cell 1; have c2 := hX4.cell 2; simp only [List.getElem?_cons_zero, List.getElem?_cons_succ] at c0 c1 c2)
    )
  go_ret
  exact ⟨rfl, hW9⟩

theorem chirps_4 (s n d tick count : Int) (w : World) (hT : Tab w) (he : chirpE s n d = 0) (ht : outB tick 0 1000000 = false) (hc : outB count 0 64 = false) (hd : outB count 1 32 = true) :
    Calls Tryd.prog 7 #[.agg #[.int .i64 s, .int .i64 n, .int .i64 d], .int .i64 tick, .int .i64 count] w fun r w' => r = .returned (.bool true) ∧ Below w.heap.size w w' := by
  have hq := outB_false.1 ht
  have HA := hide (chirpAt_yes (chirpNE_in he ht))
  have HAR := hide (fun W => refChirpAt_c s n d tick W (chirpE_zero he).1 (chirpE_zero he).2.1 (chirpE_zero he).2.2.1 (chirpE_zero he).2.2.2.1 (chirpE_zero he).2.2.2.2.1 (chirpE_zero he).2.2.2.2.2 hq.1 hq.2)
  generalize freq s n d tick = fv at HA HAR
  have hcq := outB_false.1 hc
  obtain ⟨cn, rfl⟩ : ∃ cn : Nat, count = (cn : Int) := ⟨count.toNat, by omega⟩
  have HR := hide (risesOf_yes (chirpNE_in he hc))
  have HRR := hide (fun W => refRisesOf_c s n d cn W he (by omega))
  rw [Int.toNat_natCast] at HR
  have hLR : (risesL s n d cn).length ≤ 1000 := Nat.le_trans (risesL_le s n d cn) (by omega)
  generalize risesL s n d cn = LR at HR HRR hLR
  have HW := hide (wave_no (chirpNE_out he hd))
  have HE := hide (refChirpErr_c s n d)
  have HK := hide (checkChirp_c s n d)
  have HC := hide he
  obtain ⟨q1, q2, q3, q4, q5, q6⟩ := chirpE_zero he
  rw [he] at HE HK
  clear he
  go_enter Tryd.func7, Tryd.ntmps7
  go_wp2_with (first
    | (go_at_call 15; refine (awake_c _ (hT.bel (alloc_bel _ _))).mono ?_; rintro e w1 ⟨rfl, hb1⟩; have hW1 : Below w.heap.size w w1 := tr (alloc_bel _ _) hb1 (by simp); have hX1 := (Blk.new w 64 [.int .i64 s, .int .i64 n, .int .i64 d]).bel hb1; have c0 := hX1.cell 0; have c1 := hX1.cell 1; have c2 := hX1.cell 2; simp only [List.getElem?_cons_zero, List.getElem?_cons_succ] at c0 c1 c2)
    | (go_at_call 44; refine (HA.out _).mono ?_; rintro e w2 ⟨rfl, hb2⟩; have hW2 := tr hW1 hb2 hW1.size; have hX2 := hX1.bel hb2; have c0 := hX2.cell 0; have c1 := hX2.cell 1; have c2 := hX2.cell 2; simp only [List.getElem?_cons_zero, List.getElem?_cons_succ] at c0 c1 c2)
    | (go_at_call 47; refine (HE.out _).mono ?_; rintro e w5 ⟨rfl, hb5⟩; have hW5 := tr hW4 hb5 hW4.size; have hX5 := hX4.bel hb5; have U5 := tr hb4 hb5 hb4.size; have c0 := hX5.cell 0; have c1 := hX5.cell 1; have c2 := hX5.cell 2; simp only [List.getElem?_cons_zero, List.getElem?_cons_succ] at c0 c1 c2)
    | (go_at_call 48; refine (HK.out _).mono ?_; rintro e w6 ⟨rfl, hb6⟩; have hW6 := tr hW5 hb6 hW5.size; have U6 := tr U5 hb6 U5.size; have V6 := tr hb5 hb6 hb5.size; have hX6 := hX5.bel hb6; have c0 := hX6.cell 0; have c1 := hX6.cell 1; have c2 := hX6.cell 2; simp only [List.getElem?_cons_zero, List.getElem?_cons_succ] at c0 c1 c2)
    | (go_at_call 26; refine (within_c _ _ _ _).mono ?_; rintro e_ w_ ⟨rfl, rfl⟩)
    | (go_at_call 45; refine (HR.out _).mono ?_; rintro e w3 ⟨⟨A3, C3, rfl, hr3⟩, hb3⟩; have hW3 := tr hW2 hb3 hW2.size; have hX3 := hX2.bel hb3; have c0 := hX3.cell 0; have c1 := hX3.cell 1; have c2 := hX3.cell 2; simp only [List.getElem?_cons_zero, List.getElem?_cons_succ] at c0 c1 c2)
    | (go_at_call 50; refine (HRR.out _).mono ?_; rintro e w8 ⟨⟨A8, C8, rfl, hr8⟩, hb8⟩; have hW8 := tr hW7 hb8 hW7.size; have hX8 := hX7.bel hb8; have hr38 := (hr3.bel U7).bel hb8; have V8 := tr V7 hb8 V7.size; have c0 := hX8.cell 0; have c1 := hX8.cell 1; have c2 := hX8.cell 2; simp only [List.getElem?_cons_zero, List.getElem?_cons_succ] at c0 c1 c2)
    | (go_at_call 31; refine (ints_same LR A3 A8 C3 C8 _ hr38.1 hr8.1 hLR).mono ?_; rintro e w9 ⟨rfl, hb9⟩; have hW9 := tr hW8 hb9 hW8.size; have V9 := tr V8 hb9 V8.size; have hX9 := hX8.bel hb9; have c0 := hX9.cell 0; have c1 := hX9.cell 1; have c2 := hX9.cell 2; simp only [List.getElem?_cons_zero, List.getElem?_cons_succ] at c0 c1 c2)
    | (go_at_call 46; refine (HW.out _ (hT.bel hW3)).mono ?_; rintro e w4 ⟨rfl, hb4⟩; have hW4 := tr hW3 hb4 hW3.size; have hX4 := hX3.bel hb4; have c0 := hX4.cell 0; have c1 := hX4.cell 1; have c2 := hX4.cell 2; simp only [List.getElem?_cons_zero, List.getElem?_cons_succ] at c0 c1 c2)
    | (go_at_call 49; refine (HAR.out _).mono ?_; rintro e w7 ⟨rfl, hb7⟩; have hW7 := tr hW6 hb7 hW6.size; have U7 := tr U6 hb7 U6.size; have V7 := tr V6 hb7 V6.size; have hX7 := hX6.bel hb7; have c0 := hX7.cell 0; have c1 := hX7.cell 1; have c2 := hX7.cell 2; simp only [List.getElem?_cons_zero, List.getElem?_cons_succ] at c0 c1 c2)
    )
  go_ret
  exact ⟨rfl, hW9⟩

theorem chirps_5 (s n d tick count : Int) (w : World) (hT : Tab w) (he : chirpE s n d = 0) (ht : outB tick 0 1000000 = true) (hc : outB count 0 64 = false) (hd : outB count 1 32 = false) :
    Calls Tryd.prog 7 #[.agg #[.int .i64 s, .int .i64 n, .int .i64 d], .int .i64 tick, .int .i64 count] w fun r w' => r = .returned (.bool true) ∧ Below w.heap.size w w' := by
  have HA := hide (chirpAt_no (chirpNE_out he ht))
  have hcq := outB_false.1 hc
  obtain ⟨cn, rfl⟩ : ∃ cn : Nat, count = (cn : Int) := ⟨count.toNat, by omega⟩
  have HR := hide (risesOf_yes (chirpNE_in he hc))
  have HRR := hide (fun W => refRisesOf_c s n d cn W he (by omega))
  rw [Int.toNat_natCast] at HR
  have hLR : (risesL s n d cn).length ≤ 1000 := Nat.le_trans (risesL_le s n d cn) (by omega)
  generalize risesL s n d cn = LR at HR HRR hLR
  have HW := hide (wave_yes (chirpNE_in he hd))
  have HWR := hide (fun W => refChirpWave_c s n d cn W he (by omega))
  rw [Int.toNat_natCast] at HW
  have hLW : (waveL s n d cn).length ≤ 1000 := by rw [waveL_length]; omega
  generalize waveL s n d cn = LW at HW HWR hLW
  have HE := hide (refChirpErr_c s n d)
  have HK := hide (checkChirp_c s n d)
  have HC := hide he
  obtain ⟨q1, q2, q3, q4, q5, q6⟩ := chirpE_zero he
  rw [he] at HE HK
  clear he
  go_enter Tryd.func7, Tryd.ntmps7
  go_wp2_with (first
    | (go_at_call 15; refine (awake_c _ (hT.bel (alloc_bel _ _))).mono ?_; rintro e w1 ⟨rfl, hb1⟩; have hW1 : Below w.heap.size w w1 := tr (alloc_bel _ _) hb1 (by simp); have hX1 := (Blk.new w 64 [.int .i64 s, .int .i64 n, .int .i64 d]).bel hb1; have c0 := hX1.cell 0; have c1 := hX1.cell 1; have c2 := hX1.cell 2; simp only [List.getElem?_cons_zero, List.getElem?_cons_succ] at c0 c1 c2)
    | (go_at_call 44; refine (HA.out _).mono ?_; rintro e w2 ⟨rfl, hb2⟩; have hW2 := tr hW1 hb2 hW1.size; have hX2 := hX1.bel hb2; have c0 := hX2.cell 0; have c1 := hX2.cell 1; have c2 := hX2.cell 2; simp only [List.getElem?_cons_zero, List.getElem?_cons_succ] at c0 c1 c2)
    | (go_at_call 47; refine (HE.out _).mono ?_; rintro e w5 ⟨rfl, hb5⟩; have hW5 := tr hW4 hb5 hW4.size; have hX5 := hX4.bel hb5; have U5 := tr hb4 hb5 hb4.size; have c0 := hX5.cell 0; have c1 := hX5.cell 1; have c2 := hX5.cell 2; simp only [List.getElem?_cons_zero, List.getElem?_cons_succ] at c0 c1 c2)
    | (go_at_call 48; refine (HK.out _).mono ?_; rintro e w6 ⟨rfl, hb6⟩; have hW6 := tr hW5 hb6 hW5.size; have U6 := tr U5 hb6 U5.size; have V6 := tr hb5 hb6 hb5.size; have hX6 := hX5.bel hb6; have c0 := hX6.cell 0; have c1 := hX6.cell 1; have c2 := hX6.cell 2; simp only [List.getElem?_cons_zero, List.getElem?_cons_succ] at c0 c1 c2)
    | (go_at_call 26; refine (within_c _ _ _ _).mono ?_; rintro e_ w_ ⟨rfl, rfl⟩)
    | (go_at_call 45; refine (HR.out _).mono ?_; rintro e w3 ⟨⟨A3, C3, rfl, hr3⟩, hb3⟩; have hW3 := tr hW2 hb3 hW2.size; have hX3 := hX2.bel hb3; have c0 := hX3.cell 0; have c1 := hX3.cell 1; have c2 := hX3.cell 2; simp only [List.getElem?_cons_zero, List.getElem?_cons_succ] at c0 c1 c2)
    | (go_at_call 50; refine (HRR.out _).mono ?_; rintro e w8 ⟨⟨A8, C8, rfl, hr8⟩, hb8⟩; have hW8 := tr hW6 hb8 hW6.size; have hX8 := hX6.bel hb8; have hr38 := (hr3.bel U6).bel hb8; have V8 := tr V6 hb8 V6.size; have c0 := hX8.cell 0; have c1 := hX8.cell 1; have c2 := hX8.cell 2; simp only [List.getElem?_cons_zero, List.getElem?_cons_succ] at c0 c1 c2)
    | (go_at_call 31; refine (ints_same LR A3 A8 C3 C8 _ hr38.1 hr8.1 hLR).mono ?_; rintro e w9 ⟨rfl, hb9⟩; have hW9 := tr hW8 hb9 hW8.size; have V9 := tr V8 hb9 V8.size; have hX9 := hX8.bel hb9; have c0 := hX9.cell 0; have c1 := hX9.cell 1; have c2 := hX9.cell 2; simp only [List.getElem?_cons_zero, List.getElem?_cons_succ] at c0 c1 c2)
    | (go_at_call 46; refine (HW.out _ (hT.bel hW3)).mono ?_; rintro e w4 ⟨⟨A4, C4, rfl, hr4⟩, hb4⟩; have hW4 := tr hW3 hb4 hW3.size; have hX4 := hX3.bel hb4; have c0 := hX4.cell 0; have c1 := hX4.cell 1; have c2 := hX4.cell 2; simp only [List.getElem?_cons_zero, List.getElem?_cons_succ] at c0 c1 c2)
    | (go_at_call 51; refine (HWR.out _).mono ?_; rintro e w10 ⟨⟨A10, C10, rfl, hr10⟩, hb10⟩; have hW10 := tr hW9 hb10 hW9.size; have hr410 := (hr4.bel V9).bel hb10)
    | (go_at_call 24; refine (gausses_same LW A4 A10 C4 C10 _ hr410.1 hr10.1 hLW).mono ?_; rintro e w11 ⟨rfl, hb11⟩; have hW11 := tr hW10 hb11 hW10.size)
    )
  go_ret
  exact ⟨rfl, hW11⟩

theorem chirps_6 (s n d tick count : Int) (w : World) (hT : Tab w) (he : chirpE s n d = 0) (ht : outB tick 0 1000000 = false) (hc : outB count 0 64 = false) (hd : outB count 1 32 = false) :
    Calls Tryd.prog 7 #[.agg #[.int .i64 s, .int .i64 n, .int .i64 d], .int .i64 tick, .int .i64 count] w fun r w' => r = .returned (.bool true) ∧ Below w.heap.size w w' := by
  have hq := outB_false.1 ht
  have HA := hide (chirpAt_yes (chirpNE_in he ht))
  have HAR := hide (fun W => refChirpAt_c s n d tick W (chirpE_zero he).1 (chirpE_zero he).2.1 (chirpE_zero he).2.2.1 (chirpE_zero he).2.2.2.1 (chirpE_zero he).2.2.2.2.1 (chirpE_zero he).2.2.2.2.2 hq.1 hq.2)
  generalize freq s n d tick = fv at HA HAR
  have hcq := outB_false.1 hc
  obtain ⟨cn, rfl⟩ : ∃ cn : Nat, count = (cn : Int) := ⟨count.toNat, by omega⟩
  have HR := hide (risesOf_yes (chirpNE_in he hc))
  have HRR := hide (fun W => refRisesOf_c s n d cn W he (by omega))
  rw [Int.toNat_natCast] at HR
  have hLR : (risesL s n d cn).length ≤ 1000 := Nat.le_trans (risesL_le s n d cn) (by omega)
  generalize risesL s n d cn = LR at HR HRR hLR
  have HW := hide (wave_yes (chirpNE_in he hd))
  have HWR := hide (fun W => refChirpWave_c s n d cn W he (by omega))
  rw [Int.toNat_natCast] at HW
  have hLW : (waveL s n d cn).length ≤ 1000 := by rw [waveL_length]; omega
  generalize waveL s n d cn = LW at HW HWR hLW
  have HE := hide (refChirpErr_c s n d)
  have HK := hide (checkChirp_c s n d)
  have HC := hide he
  obtain ⟨q1, q2, q3, q4, q5, q6⟩ := chirpE_zero he
  rw [he] at HE HK
  clear he
  go_enter Tryd.func7, Tryd.ntmps7
  go_wp2_with (first
    | (go_at_call 15; refine (awake_c _ (hT.bel (alloc_bel _ _))).mono ?_; rintro e w1 ⟨rfl, hb1⟩; have hW1 : Below w.heap.size w w1 := tr (alloc_bel _ _) hb1 (by simp); have hX1 := (Blk.new w 64 [.int .i64 s, .int .i64 n, .int .i64 d]).bel hb1; have c0 := hX1.cell 0; have c1 := hX1.cell 1; have c2 := hX1.cell 2; simp only [List.getElem?_cons_zero, List.getElem?_cons_succ] at c0 c1 c2)
    | (go_at_call 44; refine (HA.out _).mono ?_; rintro e w2 ⟨rfl, hb2⟩; have hW2 := tr hW1 hb2 hW1.size; have hX2 := hX1.bel hb2; have c0 := hX2.cell 0; have c1 := hX2.cell 1; have c2 := hX2.cell 2; simp only [List.getElem?_cons_zero, List.getElem?_cons_succ] at c0 c1 c2)
    | (go_at_call 47; refine (HE.out _).mono ?_; rintro e w5 ⟨rfl, hb5⟩; have hW5 := tr hW4 hb5 hW4.size; have hX5 := hX4.bel hb5; have U5 := tr hb4 hb5 hb4.size; have c0 := hX5.cell 0; have c1 := hX5.cell 1; have c2 := hX5.cell 2; simp only [List.getElem?_cons_zero, List.getElem?_cons_succ] at c0 c1 c2)
    | (go_at_call 48; refine (HK.out _).mono ?_; rintro e w6 ⟨rfl, hb6⟩; have hW6 := tr hW5 hb6 hW5.size; have U6 := tr U5 hb6 U5.size; have V6 := tr hb5 hb6 hb5.size; have hX6 := hX5.bel hb6; have c0 := hX6.cell 0; have c1 := hX6.cell 1; have c2 := hX6.cell 2; simp only [List.getElem?_cons_zero, List.getElem?_cons_succ] at c0 c1 c2)
    | (go_at_call 26; refine (within_c _ _ _ _).mono ?_; rintro e_ w_ ⟨rfl, rfl⟩)
    | (go_at_call 45; refine (HR.out _).mono ?_; rintro e w3 ⟨⟨A3, C3, rfl, hr3⟩, hb3⟩; have hW3 := tr hW2 hb3 hW2.size; have hX3 := hX2.bel hb3; have c0 := hX3.cell 0; have c1 := hX3.cell 1; have c2 := hX3.cell 2; simp only [List.getElem?_cons_zero, List.getElem?_cons_succ] at c0 c1 c2)
    | (go_at_call 50; refine (HRR.out _).mono ?_; rintro e w8 ⟨⟨A8, C8, rfl, hr8⟩, hb8⟩; have hW8 := tr hW7 hb8 hW7.size; have hX8 := hX7.bel hb8; have hr38 := (hr3.bel U7).bel hb8; have V8 := tr V7 hb8 V7.size; have c0 := hX8.cell 0; have c1 := hX8.cell 1; have c2 := hX8.cell 2; simp only [List.getElem?_cons_zero, List.getElem?_cons_succ] at c0 c1 c2)
    | (go_at_call 31; refine (ints_same LR A3 A8 C3 C8 _ hr38.1 hr8.1 hLR).mono ?_; rintro e w9 ⟨rfl, hb9⟩; have hW9 := tr hW8 hb9 hW8.size; have V9 := tr V8 hb9 V8.size; have hX9 := hX8.bel hb9; have c0 := hX9.cell 0; have c1 := hX9.cell 1; have c2 := hX9.cell 2; simp only [List.getElem?_cons_zero, List.getElem?_cons_succ] at c0 c1 c2)
    | (go_at_call 46; refine (HW.out _ (hT.bel hW3)).mono ?_; rintro e w4 ⟨⟨A4, C4, rfl, hr4⟩, hb4⟩; have hW4 := tr hW3 hb4 hW3.size; have hX4 := hX3.bel hb4; have c0 := hX4.cell 0; have c1 := hX4.cell 1; have c2 := hX4.cell 2; simp only [List.getElem?_cons_zero, List.getElem?_cons_succ] at c0 c1 c2)
    | (go_at_call 51; refine (HWR.out _).mono ?_; rintro e w10 ⟨⟨A10, C10, rfl, hr10⟩, hb10⟩; have hW10 := tr hW9 hb10 hW9.size; have hr410 := (hr4.bel V9).bel hb10)
    | (go_at_call 24; refine (gausses_same LW A4 A10 C4 C10 _ hr410.1 hr10.1 hLW).mono ?_; rintro e w11 ⟨rfl, hb11⟩; have hW11 := tr hW10 hb11 hW10.size)
    | (go_at_call 49; refine (HAR.out _).mono ?_; rintro e w7 ⟨rfl, hb7⟩; have hW7 := tr hW6 hb7 hW6.size; have U7 := tr U6 hb7 U6.size; have V7 := tr V6 hb7 V6.size; have hX7 := hX6.bel hb7; have c0 := hX7.cell 0; have c1 := hX7.cell 1; have c2 := hX7.cell 2; simp only [List.getElem?_cons_zero, List.getElem?_cons_succ] at c0 c1 c2)
    )
  go_ret
  exact ⟨rfl, hW11⟩

theorem chirps_c (s n d tick count : Int) (w : World) (hT : Tab w) :
    Calls Tryd.prog 7 #[.agg #[.int .i64 s, .int .i64 n, .int .i64 d], .int .i64 tick, .int .i64 count] w fun r w' => r = .returned (.bool true) ∧ Below w.heap.size w w' := by
  rcases chirpE_cases s n d with he | he
  · cases ht : outB tick 0 1000000 <;> cases hc : outB count 0 64 <;> cases hd : outB count 1 32
    · exact chirps_6 s n d tick count w hT he ht hc hd
    · exact chirps_4 s n d tick count w hT he ht hc hd
    · have h1 := outB_true.1 hc; have h2 := outB_false.1 hd; omega
    · exact chirps_2 s n d tick count w hT he ht hc hd
    · exact chirps_5 s n d tick count w hT he ht hc hd
    · exact chirps_3 s n d tick count w hT he ht hc hd
    · have h1 := outB_true.1 hc; have h2 := outB_false.1 hd; omega
    · exact chirps_1 s n d tick count w hT he ht hc hd
  · exact chirps_bad s n d tick count w hT he
end Go.Proofs.YthkmeaibppkhmaaDoor
