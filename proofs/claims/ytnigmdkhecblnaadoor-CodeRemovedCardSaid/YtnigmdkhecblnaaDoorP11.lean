/- Contracts: which harmonics are lines (the program's). Written by tools/genp11.py. -/
import Derived.Test.YtnigmdkhecblnaaDoorP10
import Derived.Test.YtnigmdkhecblnaaDoorMG
set_option linter.unusedSimpArgs false
set_option linter.unusedVariables false
namespace Go.Proofs.YtnigmdkhecblnaaDoor
open Go.RowKit
set_option maxRecDepth 100000

/-- Is this power a line's, by a ratio? -/
def lineB (all t num den : Int) : Bool := decide (num * (all - t) < 3 * t * den)
/-- The first harmonics that are lines. -/
def linTo (all : Int) (T : Nat → Int) (num den : Int) (k : Nat) : List Int := ((List.range k).filter fun n => lineB all (T n) num den).map fun n : Nat => (n : Int)
theorem linTo_yes {all : Int} {T : Nat → Int} {num den : Int} {k : Nat} (h : lineB all (T k) num den = true) : linTo all T num den (k + 1) = linTo all T num den k ++ [(k : Int)] := by
  simp [linTo, List.range_succ, List.filter_append, h]
theorem linTo_no {all : Int} {T : Nat → Int} {num den : Int} {k : Nat} (h : lineB all (T k) num den = false) : linTo all T num den (k + 1) = linTo all T num den k := by
  simp [linTo, List.range_succ, List.filter_append, h]
theorem linTo_le (all : Int) (T : Nat → Int) (num den : Int) (k : Nat) : (linTo all T num den k).length ≤ k := by
  have := List.length_filter_le (fun n => lineB all (T n) num den) (List.range k)
  simp [linTo] at this ⊢
  omega

/-- Powers that are not too great for what is computed of them. -/
structure PB (T : Nat → Int) : Prop where
  b : ∀ n, n < 4 → 0 ≤ T n ∧ T n ≤ 8192000000000000
theorem ratE_zero {a b : Int} (h : ratE a b = 0) : 1 ≤ a ∧ a ≤ 100 ∧ 1 ≤ b ∧ b ≤ 100 := by
  have h1 := firstE_zero h
  have h2 := h1 (errIf (decide (b < 1) || !(lowB a b)) 3) (by simp)
  have h3 := h1 (errIf (outB a 1 100 || decide ((100 : Int) < b)) 2) (by simp)
  have e2 : (decide (b < 1) || !(lowB a b)) = false := by
    cases h : (decide (b < 1) || !(lowB a b))
    · rfl
    · rw [h] at h2; simp [errIf] at h2
  have e3 : (outB a 1 100 || decide ((100 : Int) < b)) = false := by
    cases h : (outB a 1 100 || decide ((100 : Int) < b))
    · rfl
    · rw [h] at h3; simp [errIf] at h3
  simp only [Bool.or_eq_false_iff] at e2 e3
  obtain ⟨g1, g2⟩ := outB_false.1 e3.1
  have := of_decide_eq_false e2.1
  have := of_decide_eq_false e3.2
  omega
theorem prod_bd {t den : Int} (h1 : 0 ≤ t) (h2 : t ≤ 8192000000000000) (h3 : 1 ≤ den) (h4 : den ≤ 100) : 0 ≤ 3 * t * den ∧ 3 * t * den ≤ 2457600000000000000 := by
  have a : 3 * t * den ≤ 24576000000000000 * 100 := Int.mul_le_mul (by omega) h4 (by omega) (by omega)
  have b : 0 ≤ 3 * t * den := Int.mul_nonneg (by omega) (by omega)
  omega
theorem prod_bd2 {s num : Int} (h1 : 0 ≤ s) (h2 : s ≤ 32768000000000000) (h3 : 1 ≤ num) (h4 : num ≤ 100) : 0 ≤ num * s ∧ num * s ≤ 3276800000000000000 := by
  have a : num * s ≤ 100 * 32768000000000000 := Int.mul_le_mul h4 h2 h1 (by omega)
  have b : 0 ≤ num * s := Int.mul_nonneg (by omega) h1
  omega


/-- The errors of the search for lines. -/
def linE (l : List Fr) (num den : Int) : Int := firstE [framesE l, ratE num den]
set_option maxHeartbeats 1000000 in
theorem linesIn_err (l : List Fr) (F : Option Addr) (c : Nat) (num den : Int) (w : World) (hT : Tab w) (hr : Rd w F (l.map Fr.row).flatten) (hok : ∀ f ∈ l, f.ok w) (hl : l.length ≤ 1000) (hE : linE l num den ≠ 0) :
    Calls Tryd.prog 29 #[.slice F l.length c, .agg #[.int .i64 num, .int .i64 den]] w fun r w' => r = .returned (.tuple #[.slice none 0 0, .int .i64 (linE l num den)]) ∧ Below w.heap.size w w' := by
  have hX := Blk.new w 60 [.int .i64 num, .int .i64 den]
  have hA := alloc_bel w (.cells #[.int .i64 num, .int .i64 den] 60)
  have HP : Hid (∀ W, Below w.heap.size w W → Calls Tryd.prog 15 #[.slice F l.length c] W fun r w' => (∃ t0 t1 t2 t3 : Int, r = .returned (.tuple #[.agg #[.int .i64 t0, .int .i64 t1, .int .i64 t2, .int .i64 t3], .int .i64 (framesE l)])) ∧ Below W.heap.size W w') := fun W hb =>
    (powersOf_c l F c W (hT.bel hb) (hr.bel hb) (fun f h => (hok f h).bel hb) hl).mono fun r w' h => by
      refine ⟨?_, h.2⟩
      rcases h.1 with ⟨_, h⟩ | ⟨h0, h⟩
      · exact ⟨_, _, _, _, h⟩
      · exact ⟨_, _, _, _, by rw [h0]; exact h⟩
  have HF : Hid (firstE [framesE l, ratE num den] = linE l num den) := rfl
  have e1 : (linE l num den != 0) = true := by simpa using hE
  have HRE := hide (fun W => ratioError_c num den W)
  have hxl := hX.lt
  clear hE hr hok hT
  have c0 := hX.cell 0; have c1 := hX.cell 1; simp only [List.getElem?_cons_zero, List.getElem?_cons_succ] at c0 c1
  generalize framesE l = E1 at HP HF
  generalize ratE num den = E2 at HF HRE
  go_enter Tryd.func29, Tryd.ntmps29
  go_wp2_with (first
    | (go_at_call 15; refine (HP.out _ hA).mono ?_; rintro e_ w1 ⟨⟨t0, t1, t2, t3, rfl⟩, hb1⟩; have z0 := (hb1.cell (p := ⟨w.heap.size, 0, none⟩) hxl).trans c0; have z1 := (hb1.cell (p := ⟨w.heap.size, 1, none⟩) hxl).trans c1; have hx1 := Nat.lt_of_lt_of_le hxl hb1.size)
    | (go_at_call 55; refine (HRE.out _).mono ?_; rintro e_ w2 ⟨rfl, hb2⟩)
    | (go_at_call 39; refine (firstError_2 _ _ _).mono ?_; rintro e_ w_ ⟨rfl, rfl⟩; rw [HF.out]))
  go_ret2
  exact ⟨rfl, bel_alloc (bel_tr (bel_alloc (bel_tr hA hA.size hb1) (bel_tr hA hA.size hb1).size _) (bel_alloc (bel_tr hA hA.size hb1) (bel_tr hA hA.size hb1).size _).size hb2) (bel_tr (bel_alloc (bel_tr hA hA.size hb1) (bel_tr hA hA.size hb1).size _) (bel_alloc (bel_tr hA hA.size hb1) (bel_tr hA hA.size hb1).size _).size hb2).size _⟩

theorem framesE_zero {l : List Fr} (h : framesE l = 0) : 1 ≤ l.length ∧ l.length ≤ 4 ∧ ∀ f ∈ l, f.err = 0 := by
  unfold framesE at h
  by_cases h1 : lenE l.length 4 = 0
  · rw [if_pos h1] at h
    rw [lenE_eq] at h1
    refine ⟨?_, ?_, fun f hf => firstE_zero h _ (List.mem_map.2 ⟨f, hf, rfl⟩)⟩
    · split at h1 <;> omega
    · split at h1
      · omega
      · split at h1 <;> omega
  · rw [if_neg h1] at h; exact absurd h h1
theorem powPB {l : List Fr} (h : framesE l = 0) : PB (powSum l) := ⟨fun n _ => by
  obtain ⟨h1, h2, h3⟩ := framesE_zero h
  have := powSum_bd n h3
  omega⟩
theorem linE_zero {l : List Fr} {num den : Int} (h : linE l num den = 0) : framesE l = 0 ∧ ratE num den = 0 := by
  have h1 := firstE_zero h
  exact ⟨h1 _ (by simp), h1 _ (by simp)⟩

set_option maxHeartbeats 2000000 in
theorem linesIn_ok (l : List Fr) (F : Option Addr) (c : Nat) (num den : Int) (w : World) (hT : Tab w) (hr : Rd w F (l.map Fr.row).flatten) (hok : ∀ f ∈ l, f.ok w) (hl : l.length ≤ 1000) (hE : linE l num den = 0) :
    Calls Tryd.prog 29 #[.slice F l.length c, .agg #[.int .i64 num, .int .i64 den]] w fun r w' => (∃ A' c', r = .returned (.tuple #[.slice A' (linTo (powSum l 0 + powSum l 1 + powSum l 2 + powSum l 3) (powSum l) num den 4).length c', .int .i64 0]) ∧ RdT w' 3 A' (ints (linTo (powSum l 0 + powSum l 1 + powSum l 2 + powSum l 3) (powSum l) num den 4))) ∧ Below w.heap.size w w' := by
  obtain ⟨i0, hi, iz0, iz1, iz2⟩ := info_parts Tryd.info3
  obtain ⟨f0, f1⟩ := linE_zero hE
  obtain ⟨hn1, hn2, hd1, hd2⟩ := ratE_zero f1
  have hPB := powPB f0
  have hX := Blk.new w 60 [.int .i64 num, .int .i64 den]
  have hA := alloc_bel w (.cells #[.int .i64 num, .int .i64 den] 60)
  have HP : Hid (∀ W, Below w.heap.size w W → Calls Tryd.prog 15 #[.slice F l.length c] W fun r w' => r = .returned (.tuple #[.agg #[.int .i64 (powSum l 0), .int .i64 (powSum l 1), .int .i64 (powSum l 2), .int .i64 (powSum l 3)], .int .i64 0]) ∧ Below W.heap.size W w') := fun W hb =>
    (powersOf_c l F c W (hT.bel hb) (hr.bel hb) (fun f h => (hok f h).bel hb) hl).mono fun r w' h => by
      refine ⟨?_, h.2⟩
      rcases h.1 with ⟨h0, _⟩ | ⟨_, h⟩
      · exact absurd f0 h0
      · exact h
  have HRE := hide (fun W => ratioError_c num den W)
  rw [f1] at HRE
  have HF : Hid (firstE [(0 : Int), 0] = 0) := rfl
  have hxl := hX.lt
  clear hE hr hok hT f0 f1
  have c0 := hX.cell 0; have c1 := hX.cell 1; simp only [List.getElem?_cons_zero, List.getElem?_cons_succ] at c0 c1
  generalize powSum l = T at HP hPB ⊢
  have a1 : IntKind.i64.wrap (T 0 + T 1) = T 0 + T 1 := by have := hPB.b 0 (by omega); have := hPB.b 1 (by omega); simp (disch := omega) only [IntWalk.i64_in]
  have a2 : IntKind.i64.wrap (T 0 + T 1 + T 2) = T 0 + T 1 + T 2 := by have := hPB.b 0 (by omega); have := hPB.b 1 (by omega); have := hPB.b 2 (by omega); simp (disch := omega) only [IntWalk.i64_in]
  have a3 : IntKind.i64.wrap (T 0 + T 1 + T 2 + T 3) = T 0 + T 1 + T 2 + T 3 := by have := hPB.b 0 (by omega); have := hPB.b 1 (by omega); have := hPB.b 2 (by omega); have := hPB.b 3 (by omega); simp (disch := omega) only [IntWalk.i64_in]
  have ix0 : ∀ W, Sem.run Tryd.prog (Instr.index 38 (.agg #[.int .i64 (T 0), .int .i64 (T 1), .int .i64 (T 2), .int .i64 (T 3)]) (.int .i64 0)) W = .ok (.int .i64 (T 0)) W := fun W => by kernel_rfl
  have ix1 : ∀ W, Sem.run Tryd.prog (Instr.index 38 (.agg #[.int .i64 (T 0), .int .i64 (T 1), .int .i64 (T 2), .int .i64 (T 3)]) (.int .i64 1)) W = .ok (.int .i64 (T 1)) W := fun W => by kernel_rfl
  have ix2 : ∀ W, Sem.run Tryd.prog (Instr.index 38 (.agg #[.int .i64 (T 0), .int .i64 (T 1), .int .i64 (T 2), .int .i64 (T 3)]) (.int .i64 2)) W = .ok (.int .i64 (T 2)) W := fun W => by kernel_rfl
  have ix3 : ∀ W, Sem.run Tryd.prog (Instr.index 38 (.agg #[.int .i64 (T 0), .int .i64 (T 1), .int .i64 (T 2), .int .i64 (T 3)]) (.int .i64 3)) W = .ok (.int .i64 (T 3)) W := fun W => by kernel_rfl
  go_enter Tryd.func29, Tryd.ntmps29
  go_wp2_with (first
    | (go_at_call 15; refine (HP.out _ hA).mono ?_; rintro e_ w1 ⟨rfl, hb1⟩; have hX1 := hX.bel hb1; have z0 := hX1.cell 0; have z1 := hX1.cell 1; simp only [List.getElem?_cons_zero, List.getElem?_cons_succ] at z0 z1; have hx1 := hX1.lt)
    | (go_at_call 55; refine (HRE.out _).mono ?_; rintro e_ w2 ⟨rfl, hb2⟩; have hQ2 := (Blk.new w1 38 [.int .i64 (T 0), .int .i64 (T 1), .int .i64 (T 2), .int .i64 (T 3)]).bel hb2; have hX2 := ((hX.bel hb1).bel (alloc_bel _ _)).bel hb2; have t0 := hQ2.cell 0; have t1 := hQ2.cell 1; have t2 := hQ2.cell 2; have t3 := hQ2.cell 3; simp only [List.getElem?_cons_zero, List.getElem?_cons_succ] at t0 t1 t2 t3; have y0 := hX2.cell 0; have y1 := hX2.cell 1; simp only [List.getElem?_cons_zero, List.getElem?_cons_succ] at y0 y1; have l2 := hQ2.lt; have m2 := hX2.lt)
    | (go_at_call 39; refine (firstError_2 _ _ _).mono ?_; rintro e_ w_ ⟨rfl, rfl⟩; rw [HF.out]))
  have hB2 := bel_tr (bel_alloc (bel_tr hA hA.size hb1) (bel_tr hA hA.size hb1).size _) (bel_alloc (bel_tr hA hA.size hb1) (bel_tr hA hA.size hb1).size _).size hb2
  have hBB := bel_alloc hB2 hB2.size (.cells #[.int .i64 0, .int .i64 0] 28)
  have hXB := hX2.bel (alloc_bel w2 (.cells #[.int .i64 0, .int .i64 0] 28))
  have hQB := hQ2.bel (alloc_bel w2 (.cells #[.int .i64 0, .int .i64 0] 28))
  obtain ⟨WB, hWB⟩ : ∃ WB, w2.alloc (.cells #[.int .i64 0, .int .i64 0] 28) = WB := ⟨_, rfl⟩
  rw [hWB] at hBB hXB hQB ⊢
  clear hWB hX2 hQ2 hB2 hb1 hb2 hA hX HP HRE HF t0 t1 t2 t3 y0 y1 z0 z1 c0 c1 l2 m2 hx1 hxl hX1
  have hXl := hXB.lt
  have hQl := hQB.lt
  have y0 := hXB.cell 0; have y1 := hXB.cell 1; simp only [List.getElem?_cons_zero, List.getElem?_cons_succ] at y0 y1
  have t0 := hQB.cell 0; have t1 := hQB.cell 1; have t2 := hQB.cell 2; have t3 := hQB.cell 3; simp only [List.getElem?_cons_zero, List.getElem?_cons_succ] at t0 t1 t2 t3
  go_loopw [8, 28] (fun s i wr => WB = wr ∧ ((i = .int .i64 0 ∧ s = .int .i64 0) ∨ (i = .int .i64 1 ∧ s = .int .i64 (T 0)) ∨ (i = .int .i64 2 ∧ s = .int .i64 (T 0 + T 1)) ∨ (i = .int .i64 3 ∧ s = .int .i64 (T 0 + T 1 + T 2)) ∨ (i = .int .i64 4 ∧ s = .int .i64 (T 0 + T 1 + T 2 + T 3)))) (fun _ i _ => 4 - (intOf i).toNat)
  case atStart => exact ⟨rfl, .inl ⟨rfl, rfl⟩⟩
  case round =>
    obtain ⟨rfl, ⟨rfl, rfl⟩ | ⟨rfl, rfl⟩ | ⟨rfl, rfl⟩ | ⟨rfl, rfl⟩ | ⟨rfl, rfl⟩⟩ := hrel
    · go_wp2
      go_roundw
      case rel => exact ⟨trivial, .inr (.inl ⟨rfl, by have g0 := hPB.b 0 (by omega); congr 1; exact wrap64_id (by omega) (by omega)⟩)⟩
      case measure => simp [intOf]
    · go_wp2
      go_roundw
      case rel => exact ⟨trivial, .inr (.inr (.inl ⟨rfl, rfl⟩))⟩
      case measure => simp [intOf]
    · go_wp2
      go_roundw
      case rel => exact ⟨trivial, .inr (.inr (.inr (.inl ⟨rfl, rfl⟩)))⟩
      case measure => simp [intOf]
    · go_wp2
      go_roundw
      case rel => exact ⟨trivial, .inr (.inr (.inr (.inr ⟨rfl, rfl⟩)))⟩
      case measure => simp [intOf]
    · clear a1 a2 a3
      obtain ⟨S, hS⟩ : ∃ S, T 0 + T 1 + T 2 + T 3 = S := ⟨_, rfl⟩
      have HSum : Hid (T 0 + T 1 + T 2 + T 3 = S) := hS
      rw [hS]
      clear hS
      go_wp2
      go_loopw [11, 36] (fun v i wr => ∃ k : Nat, k ≤ 4 ∧ i = .int .i64 k ∧ Below WB.heap.size WB wr ∧ ∃ n : Nat, wr.ownsRow WB.heap.size 3 1 v n (ints (linTo S T num den k))) (fun _ i _ => 4 - (intOf i).toNat)
      case atStart => exact ⟨0, by omega, rfl, Below.refl _ _, 0, World.ownsRow_nil _ _ _ _⟩
      case round =>
        obtain ⟨k, hk, rfl, hbr, n, hown⟩ := hrel
        have hn : n = (linTo S T num den k).length := by
          have := hown.1
          rw [ints_length] at this
          omega
        subst hn
        have y0 := (hbr.cell (p := ⟨w.heap.size, 0, none⟩) hXl).trans y0
        have y1 := (hbr.cell (p := ⟨w.heap.size, 1, none⟩) hXl).trans y1
        have g0 := hPB.b 0 (by omega)
        have g1 := hPB.b 1 (by omega)
        have g2 := hPB.b 2 (by omega)
        have g3 := hPB.b 3 (by omega)
        have hk5 : k = 0 ∨ k = 1 ∨ k = 2 ∨ k = 3 ∨ k = 4 := by omega
        rcases hk5 with rfl | rfl | rfl | rfl | rfl
        · skip
          obtain ⟨p1, p2⟩ := hPB.b 0 (by omega)
          have q := prod_bd p1 p2 hd1 hd2
          have r := prod_bd2 (s := S - T 0) (by have := HSum.out; omega) (by have := HSum.out; omega) hn1 hn2
          have m1 : IntKind.i64.wrap (3 * T 0) = 3 * T 0 := by simp (disch := omega) only [IntWalk.i64_in]
          have m2 : IntKind.i64.wrap (3 * T 0 * den) = 3 * T 0 * den := by simp (disch := omega) only [IntWalk.i64_in]
          have m3 : IntKind.i64.wrap (S - T 0) = S - T 0 := by have := HSum.out; simp (disch := omega) only [IntWalk.i64_in]
          have m4 : IntKind.i64.wrap (num * (S - T 0)) = num * (S - T 0) := by simp (disch := omega) only [IntWalk.i64_in]
          have hle := linTo_le S T num den 0
          cases hb : lineB (S) (T 0) num den
          · have HL : Hid (linTo S T num den (0 + 1) = linTo S T num den 0) := linTo_no hb
            have e : decide (num * (S - T 0) < 3 * T 0 * den) = false := hb
            clear hb
            go_wp2
            go_roundw
            case rel => exact ⟨0 + 1, by omega, rfl, hbr, _, by rw [HL.out]; exact hown⟩
            case measure => simp [intOf]
          · have HL : Hid (linTo S T num den (0 + 1) = linTo S T num den 0 ++ [(0 : Int)]) := linTo_yes hb
            have e : decide (num * (S - T 0) < 3 * T 0 * den) = true := hb
            clear hb
            go_wp2_with (first | (at_builtin; refine wpList_append_own _ rfl _ _ 23 rfl WB.heap.size 3 i0 (.int .i64 0) 1 8 Tryd.underlying23 hi iz0 iz1 iz2 rfl (by decide) _ _ _ rfl (hown.alloc _) ⟨wr.heap.size, 0, none⟩ 1 1 [.int .i64 0] rfl rfl (cell_one_new _ _ _) (by simp [Value.oneCell']) (by unfold maxLen; omega) (by omega) (by have := hbr.size; simp; omega) ?_; intro v' w5 hown5 hg5 _))
            have hb5 : Below WB.heap.size WB w5 := (hbr.alloc hbr.size _).grown hg5 (by have := hbr.size; simp; omega) (fun j hj => (hown.lt j hj).1)
            go_roundw
            case rel => exact ⟨0 + 1, by omega, rfl, hb5, _, by rw [HL.out, ints_append]; exact hown5⟩
            case measure => simp [intOf]
        · skip
          obtain ⟨p1, p2⟩ := hPB.b 1 (by omega)
          have q := prod_bd p1 p2 hd1 hd2
          have r := prod_bd2 (s := S - T 1) (by have := HSum.out; omega) (by have := HSum.out; omega) hn1 hn2
          have m1 : IntKind.i64.wrap (3 * T 1) = 3 * T 1 := by simp (disch := omega) only [IntWalk.i64_in]
          have m2 : IntKind.i64.wrap (3 * T 1 * den) = 3 * T 1 * den := by simp (disch := omega) only [IntWalk.i64_in]
          have m3 : IntKind.i64.wrap (S - T 1) = S - T 1 := by have := HSum.out; simp (disch := omega) only [IntWalk.i64_in]
          have m4 : IntKind.i64.wrap (num * (S - T 1)) = num * (S - T 1) := by simp (disch := omega) only [IntWalk.i64_in]
          have hle := linTo_le S T num den 1
          cases hb : lineB (S) (T 1) num den
          · have HL : Hid (linTo S T num den (1 + 1) = linTo S T num den 1) := linTo_no hb
            have e : decide (num * (S - T 1) < 3 * T 1 * den) = false := hb
            clear hb
            go_wp2
            go_roundw
            case rel => exact ⟨1 + 1, by omega, rfl, hbr, _, by rw [HL.out]; exact hown⟩
            case measure => simp [intOf]
          · have HL : Hid (linTo S T num den (1 + 1) = linTo S T num den 1 ++ [(1 : Int)]) := linTo_yes hb
            have e : decide (num * (S - T 1) < 3 * T 1 * den) = true := hb
            clear hb
            go_wp2_with (first | (at_builtin; refine wpList_append_own _ rfl _ _ 23 rfl WB.heap.size 3 i0 (.int .i64 0) 1 8 Tryd.underlying23 hi iz0 iz1 iz2 rfl (by decide) _ _ _ rfl (hown.alloc _) ⟨wr.heap.size, 0, none⟩ 1 1 [.int .i64 1] rfl rfl (cell_one_new _ _ _) (by simp [Value.oneCell']) (by unfold maxLen; omega) (by omega) (by have := hbr.size; simp; omega) ?_; intro v' w5 hown5 hg5 _))
            have hb5 : Below WB.heap.size WB w5 := (hbr.alloc hbr.size _).grown hg5 (by have := hbr.size; simp; omega) (fun j hj => (hown.lt j hj).1)
            go_roundw
            case rel => exact ⟨1 + 1, by omega, rfl, hb5, _, by rw [HL.out, ints_append]; exact hown5⟩
            case measure => simp [intOf]
        · skip
          obtain ⟨p1, p2⟩ := hPB.b 2 (by omega)
          have q := prod_bd p1 p2 hd1 hd2
          have r := prod_bd2 (s := S - T 2) (by have := HSum.out; omega) (by have := HSum.out; omega) hn1 hn2
          have m1 : IntKind.i64.wrap (3 * T 2) = 3 * T 2 := by simp (disch := omega) only [IntWalk.i64_in]
          have m2 : IntKind.i64.wrap (3 * T 2 * den) = 3 * T 2 * den := by simp (disch := omega) only [IntWalk.i64_in]
          have m3 : IntKind.i64.wrap (S - T 2) = S - T 2 := by have := HSum.out; simp (disch := omega) only [IntWalk.i64_in]
          have m4 : IntKind.i64.wrap (num * (S - T 2)) = num * (S - T 2) := by simp (disch := omega) only [IntWalk.i64_in]
          have hle := linTo_le S T num den 2
          cases hb : lineB (S) (T 2) num den
          · have HL : Hid (linTo S T num den (2 + 1) = linTo S T num den 2) := linTo_no hb
            have e : decide (num * (S - T 2) < 3 * T 2 * den) = false := hb
            clear hb
            go_wp2
            go_roundw
            case rel => exact ⟨2 + 1, by omega, rfl, hbr, _, by rw [HL.out]; exact hown⟩
            case measure => simp [intOf]
          · have HL : Hid (linTo S T num den (2 + 1) = linTo S T num den 2 ++ [(2 : Int)]) := linTo_yes hb
            have e : decide (num * (S - T 2) < 3 * T 2 * den) = true := hb
            clear hb
            go_wp2_with (first | (at_builtin; refine wpList_append_own _ rfl _ _ 23 rfl WB.heap.size 3 i0 (.int .i64 0) 1 8 Tryd.underlying23 hi iz0 iz1 iz2 rfl (by decide) _ _ _ rfl (hown.alloc _) ⟨wr.heap.size, 0, none⟩ 1 1 [.int .i64 2] rfl rfl (cell_one_new _ _ _) (by simp [Value.oneCell']) (by unfold maxLen; omega) (by omega) (by have := hbr.size; simp; omega) ?_; intro v' w5 hown5 hg5 _))
            have hb5 : Below WB.heap.size WB w5 := (hbr.alloc hbr.size _).grown hg5 (by have := hbr.size; simp; omega) (fun j hj => (hown.lt j hj).1)
            go_roundw
            case rel => exact ⟨2 + 1, by omega, rfl, hb5, _, by rw [HL.out, ints_append]; exact hown5⟩
            case measure => simp [intOf]
        · skip
          obtain ⟨p1, p2⟩ := hPB.b 3 (by omega)
          have q := prod_bd p1 p2 hd1 hd2
          have r := prod_bd2 (s := S - T 3) (by have := HSum.out; omega) (by have := HSum.out; omega) hn1 hn2
          have m1 : IntKind.i64.wrap (3 * T 3) = 3 * T 3 := by simp (disch := omega) only [IntWalk.i64_in]
          have m2 : IntKind.i64.wrap (3 * T 3 * den) = 3 * T 3 * den := by simp (disch := omega) only [IntWalk.i64_in]
          have m3 : IntKind.i64.wrap (S - T 3) = S - T 3 := by have := HSum.out; simp (disch := omega) only [IntWalk.i64_in]
          have m4 : IntKind.i64.wrap (num * (S - T 3)) = num * (S - T 3) := by simp (disch := omega) only [IntWalk.i64_in]
          have hle := linTo_le S T num den 3
          cases hb : lineB (S) (T 3) num den
          · have HL : Hid (linTo S T num den (3 + 1) = linTo S T num den 3) := linTo_no hb
            have e : decide (num * (S - T 3) < 3 * T 3 * den) = false := hb
            clear hb
            go_wp2
            go_roundw
            case rel => exact ⟨3 + 1, by omega, rfl, hbr, _, by rw [HL.out]; exact hown⟩
            case measure => simp [intOf]
          · have HL : Hid (linTo S T num den (3 + 1) = linTo S T num den 3 ++ [(3 : Int)]) := linTo_yes hb
            have e : decide (num * (S - T 3) < 3 * T 3 * den) = true := hb
            clear hb
            go_wp2_with (first | (at_builtin; refine wpList_append_own _ rfl _ _ 23 rfl WB.heap.size 3 i0 (.int .i64 0) 1 8 Tryd.underlying23 hi iz0 iz1 iz2 rfl (by decide) _ _ _ rfl (hown.alloc _) ⟨wr.heap.size, 0, none⟩ 1 1 [.int .i64 3] rfl rfl (cell_one_new _ _ _) (by simp [Value.oneCell']) (by unfold maxLen; omega) (by omega) (by have := hbr.size; simp; omega) ?_; intro v' w5 hown5 hg5 _))
            have hb5 : Below WB.heap.size WB w5 := (hbr.alloc hbr.size _).grown hg5 (by have := hbr.size; simp; omega) (fun j hj => (hown.lt j hj).1)
            go_roundw
            case rel => exact ⟨3 + 1, by omega, rfl, hb5, _, by rw [HL.out, ints_append]; exact hown5⟩
            case measure => simp [intOf]
        · obtain ⟨A', c', rfl⟩ := ownsRow_slice hown
          go_wp2
          go_ret2
          exact ⟨⟨A', c', by rw [HSum.out]; rfl, by rw [HSum.out]; exact RdT.of_own hown⟩, bel_tr hBB hBB.size hbr⟩
end Go.Proofs.YtnigmdkhecblnaaDoor
