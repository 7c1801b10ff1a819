/- The law CodeRemoved, whole. Condition: the laid table. -/
import Derived.Test.YtnigmdkhecblnaaDoorL16a
set_option linter.unusedSimpArgs false
set_option linter.unusedVariables false
namespace Go.Proofs.YtnigmdkhecblnaaDoor
open Go.RowKit
set_option maxRecDepth 100000



theorem powers_of (l : List Fr) (t0 t1 t2 t3 : Int) (he : framesE l = 0) (h0 : powSum l 0 = t0) (h1 : powSum l 1 = t1) (h2 : powSum l 2 = t2) (h3 : powSum l 3 = t3) (hl : l.length ≤ 1000) (F : Option Addr) (c : Nat) (w : World) (hT : Tab w) (hr : Rd w F (l.map Fr.row).flatten) (hok : ∀ f ∈ l, f.ok w) :
    Calls Tryd.prog 15 #[.slice F l.length c] w fun r w' => r = .returned (.tuple #[.agg #[.int .i64 t0, .int .i64 t1, .int .i64 t2, .int .i64 t3], .int .i64 0]) ∧ Below w.heap.size w w' := by
  subst h0 h1 h2 h3
  refine (powersOf_c l F c w hT hr hok hl).mono ?_
  rintro r w' ⟨h, hb⟩
  refine ⟨?_, hb⟩
  rcases h with ⟨h, _⟩ | ⟨_, h⟩
  · exact absurd he h
  · exact h
theorem two_below {f : FuncId} {args : Array Value} {U W : World} {R : Ending → World → Prop} (hb : Below U.heap.size U W) (h : Calls Tryd.prog f args W fun r w' => R r w' ∧ Below W.heap.size W w') :
    Calls Tryd.prog f args W fun r w' => R r w' ∧ Below U.heap.size U w' ∧ Below W.heap.size W w' := h.mono fun _ _ ⟨h1, h2⟩ => ⟨h1, bel_tr hb hb.size h2, h2⟩
theorem framesE_one {f : Fr} (h : f.err = 0) : framesE [f] = 0 := by
  unfold framesE; rw [if_pos (show lenE (([f] : List Fr).length : Int) 4 = 0 from rfl)]; simp [firstE, h]
theorem framesE_two {f g : Fr} (h : f.err = 0) (k : g.err = 0) : framesE [f, g] = 0 := by
  unfold framesE; rw [if_pos (show lenE (([f, g] : List Fr).length : Int) 4 = 0 from rfl)]; simp [firstE, h, k]

/-- The energy of the first numbers of a block, and whether they all are usable. -/
def enQ (s : List (Int × Int)) (j : Nat) : Nat → Int
  | 0 => 0
  | q + 1 => enQ s j q + gnorm (s.getD (4 * j + q) (0, 0))
def allQ (us : List Bool) (f : Nat) : Nat → Bool
  | 0 => true
  | q + 1 => allQ us f q && us.getD (f + q) false
theorem enQ_four (s : List (Int × Int)) (j : Nat) : enQ s j 4 = enB s j := by
  simp only [enQ, enB, Nat.add_zero]; omega
theorem allQ_four (us : List Bool) (f : Nat) : allQ us f 4 = allU us f := by
  simp only [allQ, allU, Nat.add_zero, Bool.true_and]
theorem gnorm_bd {g : Int × Int} (h : gle 2000000 g) : 0 ≤ gnorm g ∧ gnorm g ≤ 8000000000000 := by
  obtain ⟨h1, h2, h3, h4⟩ := h
  have a := sq_bd h1 h2
  have b := sq_bd h3 h4
  unfold gnorm
  omega
theorem enQ_bd {s : List (Int × Int)} (h : ∀ g ∈ s, gle 2000000 g) (j : Nat) : ∀ q : Nat, 0 ≤ enQ s j q ∧ enQ s j q ≤ 8000000000000 * q
  | 0 => by simp [enQ]
  | q + 1 => by
    have ih := enQ_bd h j q
    have hg := gnorm_bd (gle_getD (by omega) h (4 * j + q))
    simp only [enQ]
    omega
theorem enSum_snoc (s : List (Int × Int)) (js : List Nat) (j : Nat) : enSum s (js ++ [j]) = enSum s js + enB s j := by simp [enSum]
theorem enSum_bd {s : List (Int × Int)} (h : ∀ g ∈ s, gle 2000000 g) : ∀ js : List Nat, 0 ≤ enSum s js ∧ enSum s js ≤ 32000000000000 * js.length
  | [] => by simp [enSum]
  | j :: js => by
    have ih := enSum_bd h js
    have hb := enQ_bd h j 4
    rw [enQ_four] at hb
    have e : enSum s (j :: js) = enB s j + enSum s js := by simp [enSum]
    rw [e, List.length_cons]
    omega

set_option maxHeartbeats 8000000 in
theorem removed_7 (ga li : Int) (A G : Option Addr) (cA c : Nat) (s : List (Int × Int)) (gp : List Int) (ga2 li2 : Int) (A2 G2 : Option Addr) (cA2 c2 : Nat) (s2 : List (Int × Int)) (gp2 : List Int) (B : Option Addr) (cB : Nat) (lines : List Int) (w : World) (hT : Tab w) (hs : Rd w A (gs s)) (hr : Rd w G (ints gp)) (hs2 : Rd w A2 (gs s2)) (hr2 : Rd w G2 (ints gp2)) (hx : Rd w B (ints lines)) (hf : fewB s.length gp.length = true) (hf2 : fewB s2.length gp2.length = true) (hv : (frameE ga li s gp).2 = 0) (hv2 : (frameE ga2 li2 s2 gp2).2 = 0) (h4 : lines.length ≤ 4) (hz : remE ga li lines = 0) :
    Calls Tryd.prog 4 #[.agg #[.int .i64 ga, .int .i64 li, .slice A s.length cA, .slice G gp.length c], .agg #[.int .i64 ga2, .int .i64 li2, .slice A2 s2.length cA2, .slice G2 gp2.length c2], .slice B lines.length cB] w fun r w' => r = .returned (.bool true) ∧ Below w.heap.size w w' := by
  have hXX := (Blk.new w 25 [.int .i64 ga, .int .i64 li, .slice A s.length cA, .slice G gp.length c]).bel (alloc_bel _ (.cells #[.int .i64 ga2, .int .i64 li2, .slice A2 s2.length cA2, .slice G2 gp2.length c2] 25))
  have hZZ := Blk.two w 25 25 [.int .i64 ga, .int .i64 li, .slice A s.length cA, .slice G gp.length c] [.int .i64 ga2, .int .i64 li2, .slice A2 s2.length cA2, .slice G2 gp2.length c2]
  have hAA : Below w.heap.size w ((w.alloc (.cells #[.int .i64 ga, .int .i64 li, .slice A s.length cA, .slice G gp.length c] 25)).alloc (.cells #[.int .i64 ga2, .int .i64 li2, .slice A2 s2.length cA2, .slice G2 gp2.length c2] 25)) := (alloc_bel _ _).alloc (by simp) _
  have HF := hide (fun W => fewFrame_c ga li A G s.length gp.length cA c W)
  have HF2 := hide (fun W => fewFrame_c ga2 li2 A2 G2 s2.length gp2.length cA2 c2 W)
  rw [hf] at HF
  rw [hf2] at HF2
  have hq : s.length ≤ 70 ∧ gp.length ≤ 70 := by simpa [fewB] using hf
  have hq2 : s2.length ≤ 70 ∧ gp2.length ≤ 70 := by simpa [fewB] using hf2
  have HFE : Hid (∀ W, Rd W A (gs s) → Rd W G (ints gp) → Calls Tryd.prog 11 #[.agg #[.int .i64 ga, .int .i64 li, .slice A s.length cA, .slice G gp.length c]] W fun r w' => r = .returned (.int .i64 (frameE ga li s gp).2) ∧ Below W.heap.size W w') :=
    fun W h1 h2 => frErr_c ⟨ga, li, A, cA, s, G, c, gp⟩ W ⟨h1, h2, by show s.length ≤ _; omega, by show gp.length ≤ _; omega⟩
  have HFE2 : Hid (∀ W, Rd W A2 (gs s2) → Rd W G2 (ints gp2) → Calls Tryd.prog 11 #[.agg #[.int .i64 ga2, .int .i64 li2, .slice A2 s2.length cA2, .slice G2 gp2.length c2]] W fun r w' => r = .returned (.int .i64 (frameE ga2 li2 s2 gp2).2) ∧ Below W.heap.size W w') :=
    fun W h1 h2 => frErr_c ⟨ga2, li2, A2, cA2, s2, G2, c2, gp2⟩ W ⟨h1, h2, by show s2.length ≤ _; omega, by show gp2.length ≤ _; omega⟩
  obtain ⟨hh, hsamp, _⟩ := frameE_zero hv
  obtain ⟨q1, q2, l1, l2, n1, n2⟩ := headE_zero hh
  have HLE := hide (fun W h1 => refLinesErr_c ga li A G B s.length gp.length cA c cB lines W h1 (by omega) ⟨l1, l2⟩ ⟨q1, q2⟩)
  rw [hv] at HFE
  rw [hv2] at HFE2
  rw [hz] at HLE
  have d4 : decide ((4 : Int) < (lines.length : Int)) = false := by simp; omega
  have HV := hide hv
  have HSB : Hid (∀ q ∈ s, gle 2000000 q) := fun q hq => by
    have := hsamp q hq
    simp only [gle]; omega
  have HV2 := hide hv2
  have HZ := hide hz
  have HCPf := hide (fun U W (h1 : Rd U A (gs s)) (h2 : Rd U G (ints gp)) (hb : Below U.heap.size U W) => two_below hb (copyFrame_c ga li A G cA c s gp W (h1.bel hb) (h2.bel hb) (by omega) (by omega)))
  have HCPg := hide (fun U W (h1 : Rd U A2 (gs s2)) (h2 : Rd U G2 (ints gp2)) (hb : Below U.heap.size U W) => two_below hb (copyFrame_c ga2 li2 A2 G2 cA2 c2 s2 gp2 W (h1.bel hb) (h2.bel hb) (by omega) (by omega)))
  obtain ⟨P, hP⟩ : ∃ P : Nat → Int, P = fun n => (⟨ga, li, none, 0, s, none, 0, gp⟩ : Fr).pows n := ⟨_, rfl⟩
  obtain ⟨Q, hQ⟩ : ∃ Q : Nat → Int, Q = fun n => (⟨ga2, li2, none, 0, s2, none, 0, gp2⟩ : Fr).pows n := ⟨_, rfl⟩
  have hl70 : s.length ≤ 70 ∧ gp.length ≤ 70 ∧ s2.length ≤ 70 ∧ gp2.length ≤ 70 := ⟨hq.1, hq.2, hq2.1, hq2.2⟩
  have HCI := hide (fun W h1 => copyInts_c lines B cB W h1 (by omega))
  have hz1 : linesE lines = 0 := by
    unfold remE at hz
    by_cases h : linesE lines = 0
    · exact h
    · rw [if_pos h] at hz; exact hz
  have HCL := hide (fun (A' : Option Addr) (a' : Nat) (G' : Option Addr) (d' : Nat) (B' : Option Addr) (b' : Nat) W h0 h1 h2 h3 => cleaned_ok ga li A' G' B' a' d' b' s gp lines W h0 h1 h2 h3 (by omega) (by omega) (by omega) hv hz)
  have hcv := clean_valid hv hz
  have hcu := clean_usable hv h4 (lines := lines)
  have hcl := cleanL_length s (usableL li s gp) lines s.length
  have hul : (usableL li s gp).length = s.length := by simp [usableL]
  have HZ1 := hide hz1
  have hil : (idxL (usableL li s gp) false s.length).length ≤ 1000 := Nat.le_trans (idxL_le _ _ _) (by omega)
  have hit : (idxL (usableL li s gp) true s.length).length ≤ 1000 := Nat.le_trans (idxL_le _ _ _) (by omega)
  have hpx : ∀ n, n < 4 → (⟨ga - 2, 20 * li, none, 0, cleanL s (usableL li s gp) lines s.length, none, 0, idxL (usableL li s gp) false s.length⟩ : Fr).pows n = if (n : Int) ∈ lines then 0 else 16 * P n := fun n hn => by
    rw [hP]
    show pwSum _ (blockNs (usableL (20 * li) _ _) (List.length _ / 4)) n = if (n : Int) ∈ lines then 0 else 16 * pwSum s (blockNs (usableL li s gp) (s.length / 4)) n
    rw [hcu, hcl]
    exact pwSum_clean hul hz1 hn _ fun j hj => (mem_blockNs.1 hj).2
  have HPfg := hide (fun (a : Option Addr) (b : Nat) (g : Option Addr) (d : Nat) (a' : Option Addr) (b' : Nat) (g' : Option Addr) (d' : Nat) (F : Option Addr) (k : Nat) U W (hT : Tab U) (h1 : Rd U a (gs s)) (h2 : Rd U g (ints gp)) (h3 : Rd U a' (gs s2)) (h4 : Rd U g' (ints gp2)) (hb : Below U.heap.size U W) hr => two_below hb (powers_of [⟨ga, li, a, b, s, g, d, gp⟩, ⟨ga2, li2, a', b', s2, g', d', gp2⟩] (P 0 + Q 0) (P 1 + Q 1) (P 2 + Q 2) (P 3 + Q 3) (framesE_two hv hv2) (by simp [powSum, hP, hQ, Fr.pows]) (by simp [powSum, hP, hQ, Fr.pows]) (by simp [powSum, hP, hQ, Fr.pows]) (by simp [powSum, hP, hQ, Fr.pows]) (by simp) F k W (hT.bel hb) hr (fun f hf => by simp only [List.mem_cons, List.not_mem_nil, or_false] at hf; rcases hf with rfl | rfl; exact ⟨h1.bel hb, h2.bel hb, by show s.length ≤ 1000; omega, by show gp.length ≤ 1000; omega⟩; exact ⟨h3.bel hb, h4.bel hb, by show s2.length ≤ 1000; omega, by show gp2.length ≤ 1000; omega⟩)))
  have HPgf := hide (fun (a : Option Addr) (b : Nat) (g : Option Addr) (d : Nat) (a' : Option Addr) (b' : Nat) (g' : Option Addr) (d' : Nat) (F : Option Addr) (k : Nat) U W (hT : Tab U) (h1 : Rd U a (gs s)) (h2 : Rd U g (ints gp)) (h3 : Rd U a' (gs s2)) (h4 : Rd U g' (ints gp2)) (hb : Below U.heap.size U W) hr => two_below hb (powers_of [⟨ga2, li2, a', b', s2, g', d', gp2⟩, ⟨ga, li, a, b, s, g, d, gp⟩] (P 0 + Q 0) (P 1 + Q 1) (P 2 + Q 2) (P 3 + Q 3) (framesE_two hv2 hv) (by simp [powSum, hP, hQ, Fr.pows]; omega) (by simp [powSum, hP, hQ, Fr.pows]; omega) (by simp [powSum, hP, hQ, Fr.pows]; omega) (by simp [powSum, hP, hQ, Fr.pows]; omega) (by simp) F k W (hT.bel hb) hr (fun f hf => by simp only [List.mem_cons, List.not_mem_nil, or_false] at hf; rcases hf with rfl | rfl; exact ⟨h3.bel hb, h4.bel hb, by show s2.length ≤ 1000; omega, by show gp2.length ≤ 1000; omega⟩; exact ⟨h1.bel hb, h2.bel hb, by show s.length ≤ 1000; omega, by show gp.length ≤ 1000; omega⟩)))
  have HPf := hide (fun (a : Option Addr) (b : Nat) (g : Option Addr) (d : Nat) (F : Option Addr) (k : Nat) U W (hT : Tab U) (h1 : Rd U a (gs s)) (h2 : Rd U g (ints gp)) (hb : Below U.heap.size U W) hr => two_below hb (powers_of [⟨ga, li, a, b, s, g, d, gp⟩] (P 0) (P 1) (P 2) (P 3) (framesE_one hv) (by simp [powSum, hP, Fr.pows]) (by simp [powSum, hP, Fr.pows]) (by simp [powSum, hP, Fr.pows]) (by simp [powSum, hP, Fr.pows]) (by simp) F k W (hT.bel hb) hr (fun f hf => by simp only [List.mem_cons, List.not_mem_nil, or_false] at hf; rcases hf with rfl; exact ⟨h1.bel hb, h2.bel hb, by show s.length ≤ 1000; omega, by show gp.length ≤ 1000; omega⟩)))
  simp only [List.map_cons, List.map_nil, List.flatten_cons, List.flatten_nil, Fr.row, List.cons_append, List.nil_append, List.append_nil, List.length_cons, List.length_nil, Nat.zero_add, Nat.reduceAdd] at HPfg HPgf HPf
  have HPP := hide hP
  clear hP hQ
  generalize P 0 + Q 0 = S0 at HPfg HPgf
  generalize P 1 + Q 1 = S1 at HPfg HPgf
  generalize P 2 + Q 2 = S2 at HPfg HPgf
  generalize P 3 + Q 3 = S3 at HPfg HPgf
  have HPX := hide hpx
  have HCV := hide hcv
  have HCU := hide hcu
  have HCLN := hide hcl
  clear hf hf2 hq hq2 hv hv2 h4 hz hh hsamp hpx hcv hcu hcl hz1
  generalize idxL (usableL li s gp) false s.length = LI at HCL HPX HCV HCU hil
  generalize cleanL s (usableL li s gp) lines s.length = LC at HCL HPX HCV HCU HCLN
  generalize ga - 2 = g2' at HCL HPX HCV
  generalize 20 * li = l2' at HCL HPX HCV HCU
  have HFX := hide (fun (A' : Option Addr) (a' : Nat) (G' : Option Addr) (d' : Nat) W (h1 : Rd W A' (gs LC)) (h2 : Rd W G' (ints LI)) => frErr_c ⟨g2', l2', A', a', LC, G', d', LI⟩ W ⟨h1, h2, by show LC.length ≤ 1000; rw [HCLN.out]; omega, hil⟩)
  simp only [Fr.err, HCLN.out, HCV.out] at HFX
  have HCPx := hide (fun (A' : Option Addr) (a' : Nat) (G' : Option Addr) (d' : Nat) W h1 h2 => copyFrame_c g2' l2' A' G' a' d' LC LI W h1 h2 (by rw [HCLN.out]; omega) hil)
  rw [HCLN.out] at HCPx
  have HUf : Hid (∀ (A' : Option Addr) (a' : Nat) (G' : Option Addr) (d' : Nat) W, Rd W A' (gs s) → Rd W G' (ints gp) → Calls Tryd.prog 16 #[.agg #[.int .i64 ga, .int .i64 li, .slice A' s.length a', .slice G' gp.length d']] W fun r w' =>
      (∃ A'' c'', r = .returned (.tuple #[.slice A'' (idxL (usableL li s gp) true s.length).length c'', .int .i64 0]) ∧ RdT w' 3 A'' (ints (idxL (usableL li s gp) true s.length))) ∧ Below W.heap.size W w') := fun A' a' G' d' W h1 h2 => (usableIn_c ga li A' G' a' d' s gp W h1 h2 (by omega) (by omega)).mono fun _ _ ⟨h, hb⟩ => ⟨by rcases h with ⟨h, _⟩ | ⟨_, h⟩; exact absurd HV.out h; exact h, hb⟩
  have HUx : Hid (∀ (A' : Option Addr) (a' : Nat) (G' : Option Addr) (d' : Nat) W, Rd W A' (gs LC) → Rd W G' (ints LI) → Calls Tryd.prog 16 #[.agg #[.int .i64 g2', .int .i64 l2', .slice A' s.length a', .slice G' LI.length d']] W fun r w' =>
      (∃ A'' c'', r = .returned (.tuple #[.slice A'' (idxL (usableL li s gp) true s.length).length c'', .int .i64 0]) ∧ RdT w' 3 A'' (ints (idxL (usableL li s gp) true s.length))) ∧ Below W.heap.size W w') := fun A' a' G' d' W h1 h2 => by
    have hh := usableIn_c g2' l2' A' G' a' d' LC LI W h1 h2 (by rw [HCLN.out]; omega) hil
    rw [HCU.out, HCLN.out] at hh
    exact hh.mono fun _ _ ⟨h, hb⟩ => ⟨by rcases h with ⟨h, _⟩ | ⟨_, h⟩; exact absurd HCV.out h; exact h, hb⟩
  obtain ⟨R0, hR0⟩ : ∃ R0 : Int, R0 = if ((0 : Nat) : Int) ∈ lines then 0 else 16 * P 0 := ⟨_, rfl⟩
  obtain ⟨R1, hR1⟩ : ∃ R1 : Int, R1 = if ((1 : Nat) : Int) ∈ lines then 0 else 16 * P 1 := ⟨_, rfl⟩
  obtain ⟨R2, hR2⟩ : ∃ R2 : Int, R2 = if ((2 : Nat) : Int) ∈ lines then 0 else 16 * P 2 := ⟨_, rfl⟩
  obtain ⟨R3, hR3⟩ : ∃ R3 : Int, R3 = if ((3 : Nat) : Int) ∈ lines then 0 else 16 * P 3 := ⟨_, rfl⟩
  have HPx := hide (fun (a : Option Addr) (b : Nat) (g : Option Addr) (d : Nat) (F : Option Addr) (k : Nat) U W (hT : Tab U) (h1 : Rd U a (gs LC)) (h2 : Rd U g (ints LI)) (hb : Below U.heap.size U W) hr => two_below hb (powers_of [⟨g2', l2', a, b, LC, g, d, LI⟩] R0 R1 R2 R3 (framesE_one HCV.out) (by rw [hR0, ← HPX.out 0 (by omega)]; simp [powSum, Fr.pows]) (by rw [hR1, ← HPX.out 1 (by omega)]; simp [powSum, Fr.pows]) (by rw [hR2, ← HPX.out 2 (by omega)]; simp [powSum, Fr.pows]) (by rw [hR3, ← HPX.out 3 (by omega)]; simp [powSum, Fr.pows]) (by simp) F k W (hT.bel hb) hr (fun f hf => by simp only [List.mem_cons, List.not_mem_nil, or_false] at hf; rcases hf with rfl; exact ⟨h1.bel hb, h2.bel hb, by show LC.length ≤ 1000; rw [HCLN.out]; omega, hil⟩)))
  simp only [List.map_cons, List.map_nil, List.flatten_cons, List.flatten_nil, Fr.row, List.cons_append, List.nil_append, List.append_nil, List.length_cons, List.length_nil, Nat.zero_add, Nat.reduceAdd, HCLN.out] at HPx
  have HRv0 := hide hR0
  have HRv1 := hide hR1
  have HRv2 := hide hR2
  have HRv3 := hide hR3
  clear hR0 hR1 hR2 hR3 HPX HCV HCU HCLN
  have HLU := hide hit
  generalize idxL (usableL li s gp) true s.length = LU at HUf HUx hit
  go_enter Tryd.func4, Tryd.ntmps4
  go_upto_region 5 with (first
    | (go_at_call 12; have _g := hW5; refine (HLE.out _ (hx.bel hW5)).mono ?_; rintro e w6 ⟨rfl, hb6⟩; have hW6 := tr hW5 hb6 hW5.size; have hX6 := hX5.bel hb6; have hZ6 := hZ5.bel hb6)
    | (go_at_call 11; have _g := hW4; refine (HFE2.out _ (hs2.bel hW4) (hr2.bel hW4)).mono ?_; rintro e w5 ⟨rfl, hb5⟩; have hW5 := tr hW4 hb5 hW4.size; have hX5 := hX4.bel hb5; have hZ5 := hZ4.bel hb5; have c0 := hX5.cell 0; have c1 := hX5.cell 1; have c2 := hX5.cell 2; have c3 := hX5.cell 3; simp only [List.getElem?_cons_zero, List.getElem?_cons_succ] at c0 c1 c2 c3; have z0 := hZ5.cell 0; have z1 := hZ5.cell 1; have z2 := hZ5.cell 2; have z3 := hZ5.cell 3; simp only [List.getElem?_cons_zero, List.getElem?_cons_succ] at z0 z1 z2 z3)
    | (go_at_call 11; have _g := hW3; refine (HFE.out _ (hs.bel hW3) (hr.bel hW3)).mono ?_; rintro e w4 ⟨rfl, hb4⟩; have hW4 := tr hW3 hb4 hW3.size; have hX4 := hX3.bel hb4; have hZ4 := hZ3.bel hb4; have c0 := hX4.cell 0; have c1 := hX4.cell 1; have c2 := hX4.cell 2; have c3 := hX4.cell 3; simp only [List.getElem?_cons_zero, List.getElem?_cons_succ] at c0 c1 c2 c3; have z0 := hZ4.cell 0; have z1 := hZ4.cell 1; have z2 := hZ4.cell 2; have z3 := hZ4.cell 3; simp only [List.getElem?_cons_zero, List.getElem?_cons_succ] at z0 z1 z2 z3)
    | (go_at_call 7; have _g := hW2; refine (HF2.out _).mono ?_; rintro e w3 ⟨rfl, hb3⟩; have hW3 := tr hW2 hb3 hW2.size; have hX3 := hX2.bel hb3; have hZ3 := hZ2.bel hb3; have c0 := hX3.cell 0; have c1 := hX3.cell 1; have c2 := hX3.cell 2; have c3 := hX3.cell 3; simp only [List.getElem?_cons_zero, List.getElem?_cons_succ] at c0 c1 c2 c3; have z0 := hZ3.cell 0; have z1 := hZ3.cell 1; have z2 := hZ3.cell 2; have z3 := hZ3.cell 3; simp only [List.getElem?_cons_zero, List.getElem?_cons_succ] at z0 z1 z2 z3)
    | (go_at_call 7; have _g := hW1; refine (HF.out _).mono ?_; rintro e w2 ⟨rfl, hb2⟩; have hW2 := tr hW1 hb2 hW1.size; have hX2 := hX1.bel hb2; have hZ2 := hZ1.bel hb2; have c0 := hX2.cell 0; have c1 := hX2.cell 1; have c2 := hX2.cell 2; have c3 := hX2.cell 3; simp only [List.getElem?_cons_zero, List.getElem?_cons_succ] at c0 c1 c2 c3; have z0 := hZ2.cell 0; have z1 := hZ2.cell 1; have z2 := hZ2.cell 2; have z3 := hZ2.cell 3; simp only [List.getElem?_cons_zero, List.getElem?_cons_succ] at z0 z1 z2 z3)
    | (go_at_call 6; refine (awake_c _ (hT.bel hAA)).mono ?_; rintro e w1 ⟨rfl, hb1⟩; have hW1 := tr hAA hb1 (by simp; omega); have hX1 := hXX.bel hb1; have hZ1 := hZZ.bel hb1; have c0 := hX1.cell 0; have c1 := hX1.cell 1; have c2 := hX1.cell 2; have c3 := hX1.cell 3; simp only [List.getElem?_cons_zero, List.getElem?_cons_succ] at c0 c1 c2 c3; have z0 := hZ1.cell 0; have z1 := hZ1.cell 1; have z2 := hZ1.cell 2; have z3 := hZ1.cell 3; simp only [List.getElem?_cons_zero, List.getElem?_cons_succ] at z0 z1 z2 z3)
    )
  obtain ⟨V, hV⟩ : ∃ V : World, w6 = V := ⟨_, rfl⟩
  rw [hV] at hX6 hZ6 hW6 hb6 ⊢
  have HS := hide (hs.bel hW6)
  have HR := hide (hr.bel hW6)
  have HS2 := hide (hs2.bel hW6)
  have HR2 := hide (hr2.bel hW6)
  have HXV := hide (hx.bel hW6)
  have HTV := hide (hT.bel hW6)
  clear hV hX5 hX4 hX3 hX2 hX1 hXX hZ5 hZ4 hZ3 hZ2 hZ1 hZZ hW5 hW4 hW3 hW2 hW1 hAA hb1 hb2 hb3 hb4 hb5 hb6 hs hr hs2 hr2 hx hT HF HF2 HFE HFE2 HLE c0 c1 c2 c3 z0 z1 z2 z3 d4
  have hXl := hX6.lt
  have hZl := hZ6.lt
  have c0 := hX6.cell 0; have c1 := hX6.cell 1; have c2 := hX6.cell 2; have c3 := hX6.cell 3; simp only [List.getElem?_cons_zero, List.getElem?_cons_succ] at c0 c1 c2 c3
  have z0 := hZ6.cell 0; have z1 := hZ6.cell 1; have z2 := hZ6.cell 2; have z3 := hZ6.cell 3; simp only [List.getElem?_cons_zero, List.getElem?_cons_succ] at z0 z1 z2 z3
  go_cut [7, 8] from 59 to 67 (fun t7 t8 wx => ∃ p7 : Nat, t7 = .pointer (some ⟨p7, 0, none⟩) ∧ t8 = .int .i64 0 ∧ V.heap.size ≤ p7 ∧ Blk wx p7 38 [.int .i64 S0, .int .i64 S1, .int .i64 S2, .int .i64 S3] ∧ Below V.heap.size V wx)
  case first =>
    --<R7
    go_region_held3 (fun w' => (∀ b o, b < V.heap.size → w'.cell? ⟨b, o, none⟩ = V.cell? ⟨b, o, none⟩) ∧ Below V.heap.size V w')
      ((refine kp ?_; (repeat' (first | with_reducible exact Below.refl _ _ | with_reducible exact HB9.out | with_reducible exact HB8.out | with_reducible exact HB7.out | with_reducible refine Below.drew ?_ | with_reducible refine bel_alloc ?_ ?_ _ | with_reducible refine Below.setCell ?_ ?_ _)); all_goals (first | omega | (simp <;> omega))))
      (first
        | (go_at_call 15; have _g := HB8.out; refine (HPfg.out A7 a7 G7 d7 A8 a8 G8 d8 _ _ w8 _ (HTV.out.bel HB8.out) (hs7.1.bel H78.out) (hr7.1.bel H78.out) hs8.1 hr8.1 ?_ ?_).mono ?_; (focus ((repeat' (first | with_reducible exact Below.refl _ _ | with_reducible refine Below.drew ?_ | with_reducible refine bel_alloc ?_ ?_ _)); all_goals (first | omega | (simp <;> omega)))); (focus ((repeat' (first | with_reducible exact rd_new _ _ [_, _, _, _, _, _, _, _] | with_reducible exact (Blk.two _ _ _ _ [_, _, _, _, _, _, _, _]).rd (List.prefix_refl _) | with_reducible refine Rd.alloc ?_ _ | with_reducible refine Rd.drew ?_)))); rintro e w9 ⟨rfl, hb9, hc9⟩; have HB9 : Hid (Below V.heap.size V w9) := bel_tr HB8.out HB8.out.size hb9; have s9 := HB9.out.size; (first | (have B9 := B8.bel hb9; have xc0 := B9.cell 0; have xf0 := B9.frozen 0; have xc1 := B9.cell 1; have xf1 := B9.frozen 1; have xc2 := B9.cell 2; have xf2 := B9.frozen 2; have xc3 := B9.cell 3; have xf3 := B9.frozen 3; simp only [List.getElem?_cons_zero, List.getElem?_cons_succ] at xc0 xc1 xc2 xc3) | (have B9 := B8'.bel hb9; have xc0 := B9.cell 0; have xf0 := B9.frozen 0; have xc1 := B9.cell 1; have xf1 := B9.frozen 1; have xc2 := B9.cell 2; have xf2 := B9.frozen 2; have xc3 := B9.cell 3; have xf3 := B9.frozen 3; simp only [List.getElem?_cons_zero, List.getElem?_cons_succ] at xc0 xc1 xc2 xc3) | (refine (have B9 : Blk w9 (w8.heap.size) 38 [.int .i64 0, .int .i64 0, .int .i64 0, .int .i64 0] := ?_; ?_); (focus (refine Blk.bel ?_ hc9; (repeat' (first | with_reducible exact Blk.new _ _ [_, _, _, _] | with_reducible exact Blk.two _ _ _ _ [_, _, _, _] | with_reducible refine Blk.dr ?_ | with_reducible refine Blk.bel ?_ (alloc_bel _ _))); done)); have xc0 := B9.cell 0; have xf0 := B9.frozen 0; have xc1 := B9.cell 1; have xf1 := B9.frozen 1; have xc2 := B9.cell 2; have xf2 := B9.frozen 2; have xc3 := B9.cell 3; have xf3 := B9.frozen 3; simp only [List.getElem?_cons_zero, List.getElem?_cons_succ] at xc0 xc1 xc2 xc3) | (refine (have B9 : Blk w9 (w8.heap.size + 1) 38 [.int .i64 0, .int .i64 0, .int .i64 0, .int .i64 0] := ?_; ?_); (focus (refine Blk.bel ?_ hc9; (repeat' (first | with_reducible exact Blk.new _ _ [_, _, _, _] | with_reducible exact Blk.two _ _ _ _ [_, _, _, _] | with_reducible refine Blk.dr ?_ | with_reducible refine Blk.bel ?_ (alloc_bel _ _))); done)); have xc0 := B9.cell 0; have xf0 := B9.frozen 0; have xc1 := B9.cell 1; have xf1 := B9.frozen 1; have xc2 := B9.cell 2; have xf2 := B9.frozen 2; have xc3 := B9.cell 3; have xf3 := B9.frozen 3; simp only [List.getElem?_cons_zero, List.getElem?_cons_succ] at xc0 xc1 xc2 xc3) | skip))
        | (go_at_call 9; have _g := HB7.out; refine (HCPg.out w7 _ (HS2.out.bel HB7.out) (HR2.out.bel HB7.out) ?_).mono ?_; (focus ((repeat' (first | with_reducible exact Below.refl _ _ | with_reducible refine Below.drew ?_ | with_reducible refine bel_alloc ?_ ?_ _)); all_goals (first | omega | (simp <;> omega)))); rintro e w8 ⟨⟨A8, a8, G8, d8, rfl, hs8, hr8⟩, hb8, hc8⟩; have HB8 : Hid (Below V.heap.size V w8) := bel_tr HB7.out HB7.out.size hb8; have s8 := HB8.out.size; have H78 := hide hb8; have s78 := H78.out.size; (first | (have B8 := B7.bel hb8; have xc0 := B8.cell 0; have xf0 := B8.frozen 0; have xc1 := B8.cell 1; have xf1 := B8.frozen 1; have xc2 := B8.cell 2; have xf2 := B8.frozen 2; have xc3 := B8.cell 3; have xf3 := B8.frozen 3; simp only [List.getElem?_cons_zero, List.getElem?_cons_succ] at xc0 xc1 xc2 xc3) | (refine (have B8' : Blk w8 (w7.heap.size) 38 [.int .i64 0, .int .i64 0, .int .i64 0, .int .i64 0] := ?_; ?_); (focus (refine Blk.bel ?_ hc8; (repeat' (first | with_reducible exact Blk.new _ _ [_, _, _, _] | with_reducible exact Blk.two _ _ _ _ [_, _, _, _] | with_reducible refine Blk.dr ?_ | with_reducible refine Blk.bel ?_ (alloc_bel _ _))); done)); have xc0 := B8'.cell 0; have xf0 := B8'.frozen 0; have xc1 := B8'.cell 1; have xf1 := B8'.frozen 1; have xc2 := B8'.cell 2; have xf2 := B8'.frozen 2; have xc3 := B8'.cell 3; have xf3 := B8'.frozen 3; simp only [List.getElem?_cons_zero, List.getElem?_cons_succ] at xc0 xc1 xc2 xc3) | skip))
        | (go_at_call 9; refine (HCPf.out V _ HS.out HR.out ?_).mono ?_; (focus ((repeat' (first | with_reducible exact Below.refl _ _ | with_reducible refine Below.drew ?_ | with_reducible refine bel_alloc ?_ ?_ _)); all_goals (first | omega | (simp <;> omega)))); rintro e w7 ⟨⟨A7, a7, G7, d7, rfl, hs7, hr7⟩, hb7, hc7⟩; have HB7 : Hid (Below V.heap.size V w7) := hb7; have s7 := HB7.out.size; (first | (refine (have B7 : Blk w7 (V.heap.size) 38 [.int .i64 0, .int .i64 0, .int .i64 0, .int .i64 0] := ?_; ?_); (focus (refine Blk.bel ?_ hc7; (repeat' (first | with_reducible exact Blk.new _ _ [_, _, _, _] | with_reducible exact Blk.two _ _ _ _ [_, _, _, _] | with_reducible refine Blk.dr ?_ | with_reducible refine Blk.bel ?_ (alloc_bel _ _))); done)); have xc0 := B7.cell 0; have xf0 := B7.frozen 0; have xc1 := B7.cell 1; have xf1 := B7.frozen 1; have xc2 := B7.cell 2; have xf2 := B7.frozen 2; have xc3 := B7.cell 3; have xf3 := B7.frozen 3; simp only [List.getElem?_cons_zero, List.getElem?_cons_succ] at xc0 xc1 xc2 xc3) | skip)))
    all_goals
      go_wp2
      go_meet
      refine ⟨_, rfl, rfl, by first | omega | (simp <;> omega), ?_, ?_⟩
      · (repeat' (first | with_reducible exact Blk.new _ _ [_, _, _, _] | with_reducible exact B9 | with_reducible refine Blk.set4 (a := .int .i64 0) (b := .int .i64 0) (c := .int .i64 0) (d := .int .i64 0) ?_ _ _ _ _ | with_reducible refine Blk.dr ?_ | with_reducible refine Blk.bel ?_ (alloc_bel _ _)))
      · (repeat' (first | with_reducible exact Below.refl _ _ | with_reducible exact HB9.out | with_reducible refine Below.drew ?_ | with_reducible refine bel_alloc ?_ ?_ _ | with_reducible refine Below.setCell ?_ ?_ _)); all_goals (first | omega | (simp <;> omega))
    -->R7
  obtain ⟨p7, rfl, rfl, hp7, hP7, hbc⟩ := hcut
  replace HS := hide (HS.out.bel hbc)
  replace HR := hide (HR.out.bel hbc)
  replace HS2 := hide (HS2.out.bel hbc)
  replace HR2 := hide (HR2.out.bel hbc)
  replace HXV := hide (HXV.out.bel hbc)
  replace HTV := hide (HTV.out.bel hbc)
  replace hW6 := tr hW6 hbc hW6.size
  replace hX6 := hX6.bel hbc
  replace hZ6 := hZ6.bel hbc
  clear hbc c0 c1 c2 c3 z0 z1 z2 z3 hXl hZl
  obtain ⟨V, hV⟩ : ∃ V : World, wc = V := ⟨_, rfl⟩
  rw [hV] at HS HR HS2 HR2 HXV HTV hW6 hX6 hZ6  hP7 ⊢
  clear hV
  have hXl := hX6.lt
  have hZl := hZ6.lt
  have c0 := hX6.cell 0; have c1 := hX6.cell 1; have c2 := hX6.cell 2; have c3 := hX6.cell 3; simp only [List.getElem?_cons_zero, List.getElem?_cons_succ] at c0 c1 c2 c3
  have z0 := hZ6.cell 0; have z1 := hZ6.cell 1; have z2 := hZ6.cell 2; have z3 := hZ6.cell 3; simp only [List.getElem?_cons_zero, List.getElem?_cons_succ] at z0 z1 z2 z3
  go_wp2
  go_cut [9, 10] from 68 to 76 (fun t9 t10 wx => ∃ p9 : Nat, t9 = .pointer (some ⟨p9, 0, none⟩) ∧ t10 = .int .i64 0 ∧ V.heap.size ≤ p9 ∧ Blk wx p9 38 [.int .i64 S0, .int .i64 S1, .int .i64 S2, .int .i64 S3] ∧ Below V.heap.size V wx)
  case first =>
    --<R9
    go_region_held3 (fun w' => (∀ b o, b < V.heap.size → w'.cell? ⟨b, o, none⟩ = V.cell? ⟨b, o, none⟩) ∧ Below V.heap.size V w')
      ((refine kp ?_; (repeat' (first | with_reducible exact Below.refl _ _ | with_reducible exact HB9.out | with_reducible exact HB8.out | with_reducible exact HB7.out | with_reducible refine Below.drew ?_ | with_reducible refine bel_alloc ?_ ?_ _ | with_reducible refine Below.setCell ?_ ?_ _)); all_goals (first | omega | (simp <;> omega))))
      (first
        | (go_at_call 15; have _g := HB8.out; refine (HPgf.out A8 a8 G8 d8 A7 a7 G7 d7 _ _ w8 _ (HTV.out.bel HB8.out) hs8.1 hr8.1 (hs7.1.bel H78.out) (hr7.1.bel H78.out) ?_ ?_).mono ?_; (focus ((repeat' (first | with_reducible exact Below.refl _ _ | with_reducible refine Below.drew ?_ | with_reducible refine bel_alloc ?_ ?_ _)); all_goals (first | omega | (simp <;> omega)))); (focus ((repeat' (first | with_reducible exact rd_new _ _ [_, _, _, _, _, _, _, _] | with_reducible exact (Blk.two _ _ _ _ [_, _, _, _, _, _, _, _]).rd (List.prefix_refl _) | with_reducible refine Rd.alloc ?_ _ | with_reducible refine Rd.drew ?_)))); rintro e w9 ⟨rfl, hb9, hc9⟩; have HB9 : Hid (Below V.heap.size V w9) := bel_tr HB8.out HB8.out.size hb9; have s9 := HB9.out.size; (first | (have B9 := B8.bel hb9; have xc0 := B9.cell 0; have xf0 := B9.frozen 0; have xc1 := B9.cell 1; have xf1 := B9.frozen 1; have xc2 := B9.cell 2; have xf2 := B9.frozen 2; have xc3 := B9.cell 3; have xf3 := B9.frozen 3; simp only [List.getElem?_cons_zero, List.getElem?_cons_succ] at xc0 xc1 xc2 xc3) | (have B9 := B8'.bel hb9; have xc0 := B9.cell 0; have xf0 := B9.frozen 0; have xc1 := B9.cell 1; have xf1 := B9.frozen 1; have xc2 := B9.cell 2; have xf2 := B9.frozen 2; have xc3 := B9.cell 3; have xf3 := B9.frozen 3; simp only [List.getElem?_cons_zero, List.getElem?_cons_succ] at xc0 xc1 xc2 xc3) | (refine (have B9 : Blk w9 (w8.heap.size) 38 [.int .i64 0, .int .i64 0, .int .i64 0, .int .i64 0] := ?_; ?_); (focus (refine Blk.bel ?_ hc9; (repeat' (first | with_reducible exact Blk.new _ _ [_, _, _, _] | with_reducible exact Blk.two _ _ _ _ [_, _, _, _] | with_reducible refine Blk.dr ?_ | with_reducible refine Blk.bel ?_ (alloc_bel _ _))); done)); have xc0 := B9.cell 0; have xf0 := B9.frozen 0; have xc1 := B9.cell 1; have xf1 := B9.frozen 1; have xc2 := B9.cell 2; have xf2 := B9.frozen 2; have xc3 := B9.cell 3; have xf3 := B9.frozen 3; simp only [List.getElem?_cons_zero, List.getElem?_cons_succ] at xc0 xc1 xc2 xc3) | (refine (have B9 : Blk w9 (w8.heap.size + 1) 38 [.int .i64 0, .int .i64 0, .int .i64 0, .int .i64 0] := ?_; ?_); (focus (refine Blk.bel ?_ hc9; (repeat' (first | with_reducible exact Blk.new _ _ [_, _, _, _] | with_reducible exact Blk.two _ _ _ _ [_, _, _, _] | with_reducible refine Blk.dr ?_ | with_reducible refine Blk.bel ?_ (alloc_bel _ _))); done)); have xc0 := B9.cell 0; have xf0 := B9.frozen 0; have xc1 := B9.cell 1; have xf1 := B9.frozen 1; have xc2 := B9.cell 2; have xf2 := B9.frozen 2; have xc3 := B9.cell 3; have xf3 := B9.frozen 3; simp only [List.getElem?_cons_zero, List.getElem?_cons_succ] at xc0 xc1 xc2 xc3) | skip))
        | (go_at_call 9; have _g := HB7.out; refine (HCPf.out w7 _ (HS.out.bel HB7.out) (HR.out.bel HB7.out) ?_).mono ?_; (focus ((repeat' (first | with_reducible exact Below.refl _ _ | with_reducible refine Below.drew ?_ | with_reducible refine bel_alloc ?_ ?_ _)); all_goals (first | omega | (simp <;> omega)))); rintro e w8 ⟨⟨A8, a8, G8, d8, rfl, hs8, hr8⟩, hb8, hc8⟩; have HB8 : Hid (Below V.heap.size V w8) := bel_tr HB7.out HB7.out.size hb8; have s8 := HB8.out.size; have H78 := hide hb8; have s78 := H78.out.size; (first | (have B8 := B7.bel hb8; have xc0 := B8.cell 0; have xf0 := B8.frozen 0; have xc1 := B8.cell 1; have xf1 := B8.frozen 1; have xc2 := B8.cell 2; have xf2 := B8.frozen 2; have xc3 := B8.cell 3; have xf3 := B8.frozen 3; simp only [List.getElem?_cons_zero, List.getElem?_cons_succ] at xc0 xc1 xc2 xc3) | (refine (have B8' : Blk w8 (w7.heap.size) 38 [.int .i64 0, .int .i64 0, .int .i64 0, .int .i64 0] := ?_; ?_); (focus (refine Blk.bel ?_ hc8; (repeat' (first | with_reducible exact Blk.new _ _ [_, _, _, _] | with_reducible exact Blk.two _ _ _ _ [_, _, _, _] | with_reducible refine Blk.dr ?_ | with_reducible refine Blk.bel ?_ (alloc_bel _ _))); done)); have xc0 := B8'.cell 0; have xf0 := B8'.frozen 0; have xc1 := B8'.cell 1; have xf1 := B8'.frozen 1; have xc2 := B8'.cell 2; have xf2 := B8'.frozen 2; have xc3 := B8'.cell 3; have xf3 := B8'.frozen 3; simp only [List.getElem?_cons_zero, List.getElem?_cons_succ] at xc0 xc1 xc2 xc3) | skip))
        | (go_at_call 9; refine (HCPg.out V _ HS2.out HR2.out ?_).mono ?_; (focus ((repeat' (first | with_reducible exact Below.refl _ _ | with_reducible refine Below.drew ?_ | with_reducible refine bel_alloc ?_ ?_ _)); all_goals (first | omega | (simp <;> omega)))); rintro e w7 ⟨⟨A7, a7, G7, d7, rfl, hs7, hr7⟩, hb7, hc7⟩; have HB7 : Hid (Below V.heap.size V w7) := hb7; have s7 := HB7.out.size; (first | (refine (have B7 : Blk w7 (V.heap.size) 38 [.int .i64 0, .int .i64 0, .int .i64 0, .int .i64 0] := ?_; ?_); (focus (refine Blk.bel ?_ hc7; (repeat' (first | with_reducible exact Blk.new _ _ [_, _, _, _] | with_reducible exact Blk.two _ _ _ _ [_, _, _, _] | with_reducible refine Blk.dr ?_ | with_reducible refine Blk.bel ?_ (alloc_bel _ _))); done)); have xc0 := B7.cell 0; have xf0 := B7.frozen 0; have xc1 := B7.cell 1; have xf1 := B7.frozen 1; have xc2 := B7.cell 2; have xf2 := B7.frozen 2; have xc3 := B7.cell 3; have xf3 := B7.frozen 3; simp only [List.getElem?_cons_zero, List.getElem?_cons_succ] at xc0 xc1 xc2 xc3) | skip)))
    all_goals
      go_wp2
      go_meet
      refine ⟨_, rfl, rfl, by first | omega | (simp <;> omega), ?_, ?_⟩
      · (repeat' (first | with_reducible exact Blk.new _ _ [_, _, _, _] | with_reducible exact B9 | with_reducible refine Blk.set4 (a := .int .i64 0) (b := .int .i64 0) (c := .int .i64 0) (d := .int .i64 0) ?_ _ _ _ _ | with_reducible refine Blk.dr ?_ | with_reducible refine Blk.bel ?_ (alloc_bel _ _)))
      · (repeat' (first | with_reducible exact Below.refl _ _ | with_reducible exact HB9.out | with_reducible refine Below.drew ?_ | with_reducible refine bel_alloc ?_ ?_ _ | with_reducible refine Below.setCell ?_ ?_ _)); all_goals (first | omega | (simp <;> omega))
    -->R9
  obtain ⟨p9, rfl, rfl, hp9, hP9, hbc⟩ := hcut
  replace HS := hide (HS.out.bel hbc)
  replace HR := hide (HR.out.bel hbc)
  replace HS2 := hide (HS2.out.bel hbc)
  replace HR2 := hide (HR2.out.bel hbc)
  replace HXV := hide (HXV.out.bel hbc)
  replace HTV := hide (HTV.out.bel hbc)
  replace hW6 := tr hW6 hbc hW6.size
  replace hX6 := hX6.bel hbc
  replace hZ6 := hZ6.bel hbc
  replace hP7 := hP7.bel hbc
  clear hbc c0 c1 c2 c3 z0 z1 z2 z3 hXl hZl
  obtain ⟨V, hV⟩ : ∃ V : World, wc = V := ⟨_, rfl⟩
  rw [hV] at HS HR HS2 HR2 HXV HTV hW6 hX6 hZ6 hP7 hP9 ⊢
  clear hV
  have hXl := hX6.lt
  have hZl := hZ6.lt
  have c0 := hX6.cell 0; have c1 := hX6.cell 1; have c2 := hX6.cell 2; have c3 := hX6.cell 3; simp only [List.getElem?_cons_zero, List.getElem?_cons_succ] at c0 c1 c2 c3
  have z0 := hZ6.cell 0; have z1 := hZ6.cell 1; have z2 := hZ6.cell 2; have z3 := hZ6.cell 3; simp only [List.getElem?_cons_zero, List.getElem?_cons_succ] at z0 z1 z2 z3
  clear HPfg HPgf
  go_upto_region 8 with (first
    | (go_at_call 15; have _g := HB7.out; refine (HPf.out A7 a7 G7 d7 _ _ w7 _ (HTV.out.bel HB7.out) hs7.1 hr7.1 ?_ ?_).mono ?_; (focus ((repeat' (first | with_reducible exact Below.refl _ _ | with_reducible refine Below.drew ?_ | with_reducible refine bel_alloc ?_ ?_ _)); all_goals (first | omega | (simp <;> omega)))); (focus ((repeat' (first | with_reducible exact rd_new _ _ [_, _, _, _] | with_reducible refine Rd.alloc ?_ _ | with_reducible refine Rd.drew ?_)))); rintro e w9 ⟨rfl, hb9, hc9⟩; have HB9 : Hid (Below V.heap.size V w9) := bel_tr HB7.out HB7.out.size hb9)
    | (go_at_call 9; refine (HCPf.out V _ HS.out HR.out ?_).mono ?_; (focus ((repeat' (first | with_reducible exact Below.refl _ _ | with_reducible refine Below.drew ?_ | with_reducible refine bel_alloc ?_ ?_ _)); all_goals (first | omega | (simp <;> omega)))); rintro e w7 ⟨⟨A7, a7, G7, d7, rfl, hs7, hr7⟩, hb7, hc7⟩; have HB7 : Hid (Below V.heap.size V w7) := hb7))
  have hP11 := Blk.new w9 38 [.int .i64 (P 0), .int .i64 (P 1), .int .i64 (P 2), .int .i64 (P 3)]
  have hbc := HB9.out.alloc HB9.out.size (.cells #[.int .i64 (P 0), .int .i64 (P 1), .int .i64 (P 2), .int .i64 (P 3)] 38)
  obtain ⟨p11, hp11⟩ : ∃ p, w9.heap.size = p := ⟨_, rfl⟩
  obtain ⟨wc, hwc⟩ : ∃ W, w9.alloc (.cells #[.int .i64 (P 0), .int .i64 (P 1), .int .i64 (P 2), .int .i64 (P 3)] 38) = W := ⟨_, rfl⟩
  rw [hwc] at hP11 hbc ⊢
  rw [hp11] at hP11 ⊢
  clear hp11 hwc hs7 hr7 hb7 hc7 hb9 hc9 HB7 HB9
  replace HS := hide (HS.out.bel hbc)
  replace HR := hide (HR.out.bel hbc)
  replace HS2 := hide (HS2.out.bel hbc)
  replace HR2 := hide (HR2.out.bel hbc)
  replace HXV := hide (HXV.out.bel hbc)
  replace HTV := hide (HTV.out.bel hbc)
  replace hW6 := tr hW6 hbc hW6.size
  replace hX6 := hX6.bel hbc
  replace hZ6 := hZ6.bel hbc
  replace hP7 := hP7.bel hbc
  replace hP9 := hP9.bel hbc
  clear hbc c0 c1 c2 c3 z0 z1 z2 z3 hXl hZl
  obtain ⟨V, hV⟩ : ∃ V : World, wc = V := ⟨_, rfl⟩
  rw [hV] at HS HR HS2 HR2 HXV HTV hW6 hX6 hZ6 hP7 hP9 hP11 ⊢
  clear hV
  have hXl := hX6.lt
  have hZl := hZ6.lt
  have c0 := hX6.cell 0; have c1 := hX6.cell 1; have c2 := hX6.cell 2; have c3 := hX6.cell 3; simp only [List.getElem?_cons_zero, List.getElem?_cons_succ] at c0 c1 c2 c3
  have z0 := hZ6.cell 0; have z1 := hZ6.cell 1; have z2 := hZ6.cell 2; have z3 := hZ6.cell 3; simp only [List.getElem?_cons_zero, List.getElem?_cons_succ] at z0 z1 z2 z3
  go_upto_region 9 with (first
    | (go_at_call 8; refine (HCL.out A7 a7 G7 d7 B8 b8 w8 (HTV.out.bel HB8.out) (hs7.1.bel hb8) (hr7.1.bel hb8) hx8.1).mono ?_; rintro e w9 ⟨⟨A9, a9, G9, d9, rfl, hs9, hr9⟩, hb9⟩; have HB9 : Hid (Below V.heap.size V w9) := bel_tr HB8.out HB8.out.size hb9)
    | (go_at_call 10; refine (HCI.out w7 (HXV.out.bel HB7.out)).mono ?_; rintro e w8 ⟨⟨B8, b8, rfl, hx8⟩, hb8⟩; have HB8 : Hid (Below V.heap.size V w8) := bel_tr HB7.out HB7.out.size hb8)
    | (go_at_call 9; refine (HCPf.out V _ HS.out HR.out ?_).mono ?_; (focus ((repeat' (first | with_reducible exact Below.refl _ _ | with_reducible refine Below.drew ?_ | with_reducible refine bel_alloc ?_ ?_ _)); all_goals (first | omega | (simp <;> omega)))); rintro e w7 ⟨⟨A7, a7, G7, d7, rfl, hs7, hr7⟩, hb7, hc7⟩; have HB7 : Hid (Below V.heap.size V w7) := hb7))
  have hP13 := Blk.new w9 25 [.int .i64 g2', .int .i64 l2', .slice A9 s.length a9, .slice G9 LI.length d9]
  have hal := alloc_bel w9 (.cells #[.int .i64 g2', .int .i64 l2', .slice A9 s.length a9, .slice G9 LI.length d9] 25)
  have hbc := HB9.out.alloc HB9.out.size (.cells #[.int .i64 g2', .int .i64 l2', .slice A9 s.length a9, .slice G9 LI.length d9] 25)
  replace hs9 := hs9.bel hal
  replace hr9 := hr9.bel hal
  obtain ⟨p13, hp13⟩ : ∃ p, w9.heap.size = p := ⟨_, rfl⟩
  obtain ⟨wc, hwc⟩ : ∃ W, w9.alloc (.cells #[.int .i64 g2', .int .i64 l2', .slice A9 s.length a9, .slice G9 LI.length d9] 25) = W := ⟨_, rfl⟩
  rw [hwc] at hP13 hbc hs9 hr9 ⊢
  rw [hp13] at hP13 ⊢
  clear hp13 hwc hs7 hr7 hb7 hc7 hb8 hx8 hb9 HB7 HB8 HB9 hal
  have HA9 := hide hs9.1
  have HG9 := hide hr9.1
  clear hs9 hr9
  replace HS := hide (HS.out.bel hbc)
  replace HR := hide (HR.out.bel hbc)
  replace HS2 := hide (HS2.out.bel hbc)
  replace HR2 := hide (HR2.out.bel hbc)
  replace HXV := hide (HXV.out.bel hbc)
  replace HTV := hide (HTV.out.bel hbc)
  replace hW6 := tr hW6 hbc hW6.size
  replace hX6 := hX6.bel hbc
  replace hZ6 := hZ6.bel hbc
  replace hP7 := hP7.bel hbc
  replace hP9 := hP9.bel hbc
  replace hP11 := hP11.bel hbc
  clear hbc c0 c1 c2 c3 z0 z1 z2 z3 hXl hZl
  obtain ⟨V, hV⟩ : ∃ V : World, wc = V := ⟨_, rfl⟩
  rw [hV] at HS HR HS2 HR2 HXV HTV hW6 hX6 hZ6 hP7 hP9 hP11 hP13 HA9 HG9 ⊢
  clear hV
  have hXl := hX6.lt
  have hZl := hZ6.lt
  have c0 := hX6.cell 0; have c1 := hX6.cell 1; have c2 := hX6.cell 2; have c3 := hX6.cell 3; simp only [List.getElem?_cons_zero, List.getElem?_cons_succ] at c0 c1 c2 c3
  have z0 := hZ6.cell 0; have z1 := hZ6.cell 1; have z2 := hZ6.cell 2; have z3 := hZ6.cell 3; simp only [List.getElem?_cons_zero, List.getElem?_cons_succ] at z0 z1 z2 z3
  have m0 := hP7.cell 0; have m1 := hP7.cell 1; have m2 := hP7.cell 2; have m3 := hP7.cell 3; simp only [List.getElem?_cons_zero, List.getElem?_cons_succ] at m0 m1 m2 m3
  have n0 := hP9.cell 0; have n1 := hP9.cell 1; have n2 := hP9.cell 2; have n3 := hP9.cell 3; simp only [List.getElem?_cons_zero, List.getElem?_cons_succ] at n0 n1 n2 n3
  have k0 := hP13.cell 0; have k1 := hP13.cell 1; have k2 := hP13.cell 2; have k3 := hP13.cell 3; simp only [List.getElem?_cons_zero, List.getElem?_cons_succ] at k0 k1 k2 k3
  have hl7 := hP7.lt
  have hl9 := hP9.lt
  have hl13 := hP13.lt
  have HNE : ∀ W, Sem.run Tryd.prog (binOp .neq 38 (.agg #[.int .i64 S0, .int .i64 S1, .int .i64 S2, .int .i64 S3]) (.agg #[.int .i64 S0, .int .i64 S1, .int .i64 S2, .int .i64 S3])) W = .ok (.bool false) W := fun W => by rw [run_ne4]; simp
  go_upto_region 11 with (first
    | (go_at_call 11; refine (HFX.out A9 a9 G9 d9 V HA9.out HG9.out).mono ?_; rintro e w9 ⟨rfl, hb9⟩; have k9 := (kp hb9).1))
  have hbc := hb9
  obtain ⟨wc, hwc⟩ : ∃ W, w9 = W := ⟨_, rfl⟩
  rw [hwc] at hbc ⊢
  clear hwc hb9 k9 m0 m1 m2 m3 n0 n1 n2 n3 k0 k1 k2 k3 HNE hl7 hl9 hl13 hP7 hP9
  replace HA9 := hide (HA9.out.bel hbc)
  replace HG9 := hide (HG9.out.bel hbc)
  replace HS := hide (HS.out.bel hbc)
  replace HR := hide (HR.out.bel hbc)
  replace HS2 := hide (HS2.out.bel hbc)
  replace HR2 := hide (HR2.out.bel hbc)
  replace HXV := hide (HXV.out.bel hbc)
  replace HTV := hide (HTV.out.bel hbc)
  replace hW6 := tr hW6 hbc hW6.size
  replace hX6 := hX6.bel hbc
  replace hZ6 := hZ6.bel hbc
  replace hP11 := hP11.bel hbc
  replace hP13 := hP13.bel hbc
  clear hbc c0 c1 c2 c3 z0 z1 z2 z3 hXl hZl
  obtain ⟨V, hV⟩ : ∃ V : World, wc = V := ⟨_, rfl⟩
  rw [hV] at HS HR HS2 HR2 HXV HTV hW6 hX6 hZ6 hP11 hP13 HA9 HG9 ⊢
  clear hV
  have hXl := hX6.lt
  have hZl := hZ6.lt
  have c0 := hX6.cell 0; have c1 := hX6.cell 1; have c2 := hX6.cell 2; have c3 := hX6.cell 3; simp only [List.getElem?_cons_zero, List.getElem?_cons_succ] at c0 c1 c2 c3
  have z0 := hZ6.cell 0; have z1 := hZ6.cell 1; have z2 := hZ6.cell 2; have z3 := hZ6.cell 3; simp only [List.getElem?_cons_zero, List.getElem?_cons_succ] at z0 z1 z2 z3
  have k0 := hP13.cell 0; have k1 := hP13.cell 1; have k2 := hP13.cell 2; have k3 := hP13.cell 3; simp only [List.getElem?_cons_zero, List.getElem?_cons_succ] at k0 k1 k2 k3
  have hl13 := hP13.lt
  go_upto_region 14 with (first
    | (go_at_call 15; have _g := HB5.out; refine (HPx.out A5 a5 G5 d5 _ _ u5 _ (HTV.out.bel HB5.out) hs5.1 hr5.1 ?_ ?_).mono ?_; (focus ((repeat' (first | with_reducible exact Below.refl _ _ | with_reducible refine Below.drew ?_ | with_reducible refine bel_alloc ?_ ?_ _)); all_goals (first | omega | (simp <;> omega)))); (focus ((repeat' (first | with_reducible exact rd_new _ _ [_, _, _, _] | with_reducible refine Rd.alloc ?_ _ | with_reducible refine Rd.drew ?_)))); rintro e u6 ⟨rfl, hb6, hc6⟩; have HB6 : Hid (Below V.heap.size V u6) := bel_tr HB5.out HB5.out.size hb6)
    | (go_at_call 9; have _g := HB4.out; refine (HCPx.out A9 a9 G9 d9 u4 (HA9.out.bel HB4.out) (HG9.out.bel HB4.out)).mono ?_; rintro e u5 ⟨⟨A5, a5, G5, d5, rfl, hs5, hr5⟩, hb5⟩; have HB5 : Hid (Below V.heap.size V u5) := bel_tr HB4.out HB4.out.size hb5)
    | (go_at_call 16; have _g := HB3.out; refine (HUx.out A3 a3 G3 d3 u3 hs3.1 hr3.1).mono ?_; rintro e u4 ⟨⟨A4, a4, rfl, hr4⟩, hb4⟩; have HB4 : Hid (Below V.heap.size V u4) := bel_tr HB3.out HB3.out.size hb4; have K4 := (kp HB4.out).1)
    | (go_at_call 9; have _g := HB2.out; refine (HCPx.out A9 a9 G9 d9 u2 (HA9.out.bel HB2.out) (HG9.out.bel HB2.out)).mono ?_; rintro e u3 ⟨⟨A3, a3, G3, d3, rfl, hs3, hr3⟩, hb3⟩; have HB3 : Hid (Below V.heap.size V u3) := bel_tr HB2.out HB2.out.size hb3)
    | (go_at_call 16; refine (HUf.out A1 a1 G1 d1 u1 hs1.1 hr1.1).mono ?_; rintro e u2 ⟨⟨A2', a2, rfl, hr2'⟩, hb2⟩; have HB2 : Hid (Below V.heap.size V u2) := bel_tr HB1.out HB1.out.size hb2; have K2 := (kp HB2.out).1)
    | (go_at_call 9; refine (HCPf.out V _ HS.out HR.out ?_).mono ?_; (focus ((repeat' (first | with_reducible exact Below.refl _ _ | with_reducible refine Below.drew ?_ | with_reducible refine bel_alloc ?_ ?_ _)); all_goals (first | omega | (simp <;> omega)))); rintro e u1 ⟨⟨A1, a1, G1, d1, rfl, hs1, hr1⟩, hb1, hc1⟩; have HB1 : Hid (Below V.heap.size V u1) := hb1))
  have hP19 := Blk.new u6 38 [.int .i64 R0, .int .i64 R1, .int .i64 R2, .int .i64 R3]
  have hal := alloc_bel u6 (.cells #[.int .i64 R0, .int .i64 R1, .int .i64 R2, .int .i64 R3] 38)
  have hbc := HB6.out.alloc HB6.out.size (.cells #[.int .i64 R0, .int .i64 R1, .int .i64 R2, .int .i64 R3] 38)
  have HU2 := hide ((((((hr2'.bel hb3).bel hb4).bel hb5).bel hb6).bel hal).1)
  have HU4 := hide ((((hr4.bel hb5).bel hb6).bel hal).1)
  obtain ⟨p19, hp19⟩ : ∃ p, u6.heap.size = p := ⟨_, rfl⟩
  obtain ⟨wc, hwc⟩ : ∃ W, u6.alloc (.cells #[.int .i64 R0, .int .i64 R1, .int .i64 R2, .int .i64 R3] 38) = W := ⟨_, rfl⟩
  rw [hwc] at hP19 hbc HU2 HU4 ⊢
  rw [hp19] at hP19 ⊢
  clear hp19 hwc hal hs1 hr1 hb1 hc1 hr2' hb2 hs3 hr3 hb3 hr4 hb4 hs5 hr5 hb5 hb6 hc6 HB1 HB2 HB3 HB4 HB5 HB6 K2 K4 k0 k1 k2 k3 hl13 hP13 HA9 HG9
  replace HS := hide (HS.out.bel hbc)
  replace HR := hide (HR.out.bel hbc)
  replace HS2 := hide (HS2.out.bel hbc)
  replace HR2 := hide (HR2.out.bel hbc)
  replace HXV := hide (HXV.out.bel hbc)
  replace HTV := hide (HTV.out.bel hbc)
  replace hW6 := tr hW6 hbc hW6.size
  replace hX6 := hX6.bel hbc
  replace hZ6 := hZ6.bel hbc
  replace hP11 := hP11.bel hbc
  clear hbc c0 c1 c2 c3 z0 z1 z2 z3 hXl hZl
  obtain ⟨V, hV⟩ : ∃ V : World, wc = V := ⟨_, rfl⟩
  rw [hV] at HS HR HS2 HR2 HXV HTV hW6 hX6 hZ6 hP11 hP19 HU2 HU4 ⊢
  clear hV
  have hXl := hX6.lt
  have hZl := hZ6.lt
  have c0 := hX6.cell 0; have c1 := hX6.cell 1; have c2 := hX6.cell 2; have c3 := hX6.cell 3; simp only [List.getElem?_cons_zero, List.getElem?_cons_succ] at c0 c1 c2 c3
  have z0 := hZ6.cell 0; have z1 := hZ6.cell 1; have z2 := hZ6.cell 2; have z3 := hZ6.cell 3; simp only [List.getElem?_cons_zero, List.getElem?_cons_succ] at z0 z1 z2 z3
  go_upto_region 18 with (first
    | (go_at_call 17; refine (ints_eq LU A2' A4 a2 a4 V HU2.out HU4.out hit).mono ?_; rintro e w9 ⟨rfl, hb9⟩; have k9 := (kp hb9).1))
  have hbc := hb9
  obtain ⟨wc, hwc⟩ : ∃ W, w9 = W := ⟨_, rfl⟩
  rw [hwc] at hbc ⊢
  clear hwc hb9 k9 HU2 HU4
  replace HS := hide (HS.out.bel hbc)
  replace HR := hide (HR.out.bel hbc)
  replace HS2 := hide (HS2.out.bel hbc)
  replace HR2 := hide (HR2.out.bel hbc)
  replace HXV := hide (HXV.out.bel hbc)
  replace HTV := hide (HTV.out.bel hbc)
  replace hW6 := tr hW6 hbc hW6.size
  replace hX6 := hX6.bel hbc
  replace hZ6 := hZ6.bel hbc
  replace hP11 := hP11.bel hbc
  replace hP19 := hP19.bel hbc
  clear hbc c0 c1 c2 c3 z0 z1 z2 z3 hXl hZl
  obtain ⟨V, hV⟩ : ∃ V : World, wc = V := ⟨_, rfl⟩
  rw [hV] at HS HR HS2 HR2 HXV HTV hW6 hX6 hZ6 hP11 hP19  ⊢
  clear hV
  have hXl := hX6.lt
  have hZl := hZ6.lt
  have c0 := hX6.cell 0; have c1 := hX6.cell 1; have c2 := hX6.cell 2; have c3 := hX6.cell 3; simp only [List.getElem?_cons_zero, List.getElem?_cons_succ] at c0 c1 c2 c3
  have z0 := hZ6.cell 0; have z1 := hZ6.cell 1; have z2 := hZ6.cell 2; have z3 := hZ6.cell 3; simp only [List.getElem?_cons_zero, List.getElem?_cons_succ] at z0 z1 z2 z3
  obtain ⟨us, hus⟩ : ∃ us, usableL li s gp = us := ⟨_, rfl⟩
  have HUS := hide hus
  have HEN : Hid (P 0 + P 1 + P 2 + P 3 = 4 * enSum s (blockNs us (s.length / 4))) := by
    show _ = _
    rw [HPP.out, ← hus]
    exact pwSum_all s _
  clear hus c0 c1 c2 c3 z0 z1 z2 z3
  go_loopw [21, 22] (fun e i wr => ∃ j : Nat, j ≤ s.length / 4 ∧ i = .int .i64 (4 * (j : Int)) ∧ e = .int .i64 (enSum s (blockNs us j)) ∧ Below V.heap.size V wr) (fun _ i _ => s.length + 4 - (intOf i).toNat)
  case atStart => exact ⟨0, Nat.zero_le _, rfl, rfl, Below.refl _ _⟩
  case round =>
    obtain ⟨j, hj, rfl, rfl, hbr⟩ := hrel
    have hXr := hX6.bel hbr
    have c0 := hXr.cell 0; have c1 := hXr.cell 1; have c2 := hXr.cell 2; have c3 := hXr.cell 3; simp only [List.getElem?_cons_zero, List.getElem?_cons_succ] at c0 c1 c2 c3
    by_cases hlt : 4 * j + 4 ≤ s.length
    · have d1 : decide (4 * (j : Int) + 4 ≤ (s.length : Int)) = true := by simp; omega
      have ix0 : IntKind.i64.wrap (4 * (j : Int) + 4) = 4 * (j : Int) + 4 := by simp (disch := omega) only [IntWalk.i64_in]
      obtain ⟨E, hE⟩ : ∃ E, enSum s (blockNs us j) = E := ⟨_, rfl⟩
      have HE := hide hE
      rw [hE]
      clear hE
      obtain ⟨wo, hwo⟩ : ∃ wo : World, wr = wo := ⟨_, rfl⟩
      rw [hwo] at hbr hXr c0 c1 c2 c3 ⊢
      clear hwo
      go_upto_region 22 with fail
      go_loopw [23, 24, 25] (fun sm wh i wr => ∃ q : Nat, q ≤ 4 ∧ i = .int .i64 q ∧ sm = .int .i64 (enQ s j q) ∧ wh = .bool (allQ us (4 * j) q) ∧ Below wo.heap.size wo wr) (fun _ _ i _ => 4 - (intOf i).toNat)
      case atStart => exact ⟨0, Nat.zero_le _, rfl, rfl, rfl, Below.refl _ _⟩
      case round =>
        clear c0 c1 c2 c3
        obtain ⟨q, hq, rfl, rfl, rfl, hbx⟩ := hrel
        have hbV := bel_tr hbr hbr.size hbx
        have hXq := hXr.bel hbx
        have c0 := hXq.cell 0; have c1 := hXq.cell 1; have c2 := hXq.cell 2; have c3 := hXq.cell 3; simp only [List.getElem?_cons_zero, List.getElem?_cons_succ] at c0 c1 c2 c3
        by_cases hq4 : q < 4
        · have hin : 4 * j + q < s.length := by omega
          obtain ⟨bA, oA, rfl, hbA, s0, s1⟩ := (HS.out.bel hbV).g_at hin
          have hsm := HSB.out _ (List.getElem_mem hin)
          have HEQ : Hid (enQ s j (q + 1) = enQ s j q + gnorm s[4 * j + q]) := by
            show _ = _
            simp only [enQ, List.getD, List.getElem?_eq_getElem hin, Option.getD_some]
          have hbd := enQ_bd HSB.out j q
          have hgd := gnorm_bd hsm
          have HGN := hide (fun W => show Calls Tryd.prog 18 #[.agg #[.int .i64 s[4 * j + q].1, .int .i64 s[4 * j + q].2]] W fun r w' => r = .returned (.int .i64 (gnorm s[4 * j + q])) ∧ Below W.heap.size W w' from gnorm_c s[4 * j + q] W (by obtain ⟨e1, e2, e3, e4⟩ := hsm; unfold Mid; omega))
          have HUB : Hid (∀ W, Rd W (some ⟨bA, oA, none⟩) (gs s) → Rd W G (ints gp) → Calls Tryd.prog 19 #[.agg #[.int .i64 ga, .int .i64 li, .slice (some ⟨bA, oA, none⟩) s.length cA, .slice G gp.length c], .int .i64 (4 * (j : Int) + (q : Int))] W fun r w' => r = .returned (.bool (us.getD (4 * j + q) false)) ∧ Below W.heap.size W w') := fun W h1 h2 => by
            have h := refUsable_c ga li (some ⟨bA, oA, none⟩) G cA c s gp (4 * j + q) W h1 h2 (by omega) hin (fun g hg => by have := HSB.out g hg; simp only [gle] at this; omega)
            rw [show ((4 * j + q : Nat) : Int) = 4 * (j : Int) + (q : Int) by omega, ← usable_at hin, HUS.out] at h
            exact h
          have HAQ : Hid (allQ us (4 * j) (q + 1) = (allQ us (4 * j) q && us.getD (4 * j + q) false)) := rfl
          have ix1 : IntKind.i64.wrap (4 * (j : Int) + (q : Int)) = 4 * (j : Int) + (q : Int) := by simp (disch := omega) only [IntWalk.i64_in]
          have ix2 : (0 : Int) ≤ 4 * (j : Int) + (q : Int) := by omega
          have ix3 : 4 * (j : Int) + (q : Int) < (s.length : Int) := by omega
          have ix4 : (4 * (j : Int) + (q : Int)).toNat = 4 * j + q := by omega
          generalize gnorm s[4 * j + q] = N at HEQ hgd HGN
          generalize s[4 * j + q] = smp at s0 s1 HGN hsm
          obtain ⟨sa, sb⟩ := smp
          dsimp only at s0 s1 HGN
          generalize enQ s j q = EQ at HEQ hbd
          have ix5 : IntKind.i64.wrap (EQ + N) = EQ + N := by simp (disch := omega) only [IntWalk.i64_in]
          have HS9 := hide (HS.out.bel hbV)
          have HR9 := hide (HR.out.bel hbV)
          generalize us.getD (4 * j + q) false = ub at HUB HAQ
          clear hsm hbd hgd
          cases haq : allQ us (4 * j) q
          · rw [haq] at HAQ
            go_wp2_with (first
              | (go_at_call 18; refine (HGN.out _).mono ?_; rintro e u1 ⟨rfl, hb1⟩))
            go_roundw
            case rel => exact ⟨q + 1, by omega, by go_num, by rw [HEQ.out], by rw [HAQ.out, Bool.false_and], bel_tr hbx hbx.size hb1⟩
            case measure => simp [intOf]; omega
          · rw [haq] at HAQ
            go_wp2_with (first
              | (go_at_call 18; refine (HGN.out _).mono ?_; rintro e u1 ⟨rfl, hb1⟩; have hX1 := hXq.bel hb1; have c0 := hX1.cell 0; have c1 := hX1.cell 1; have c2 := hX1.cell 2; have c3 := hX1.cell 3; simp only [List.getElem?_cons_zero, List.getElem?_cons_succ] at c0 c1 c2 c3)
              | (go_at_call 19; refine (HUB.out u1 (HS9.out.bel hb1) (HR9.out.bel hb1)).mono ?_; rintro e u2 ⟨rfl, hb2⟩))
            go_roundw
            case rel => exact ⟨q + 1, by omega, by go_num, by rw [HEQ.out], by rw [HAQ.out, Bool.true_and], bel_tr (bel_tr hbx hbx.size hb1) (Nat.le_trans hbx.size hb1.size) hb2⟩
            case measure => simp [intOf]; omega
        · obtain rfl : q = 4 := by omega
          have d4 : decide (((4 : Nat) : Int) < 4) = false := rfl
          have haq4 := allQ_four us (4 * j)
          have hbd := enQ_bd HSB.out j 4
          have hes := enSum_bd HSB.out (blockNs us j)
          have hbn := blockNs_length us j
          rw [HE.out] at hes
          have HEQ := hide (enQ_four s j)
          generalize enQ s j 4 = EQ at HEQ hbd
          have ix5 : IntKind.i64.wrap (E + EQ) = E + EQ := by simp (disch := omega) only [IntWalk.i64_in]
          have HJ4 : Hid (4 * (j : Int) + 4 = 4 * ((j + 1 : Nat) : Int)) := by show _ = _; omega
          rw [haq4]
          cases hal : allU us (4 * j)
          · have HN : Hid (E = enSum s (blockNs us (j + 1))) := by show _ = _; rw [blockNs_succ_no hal, HE.out]
            clear hbd hes hbn haq4 hal
            go_wp2
            go_roundw
            case rel => exact ⟨j + 1, by omega, by rw [HJ4.out], by rw [← HN.out], hbV⟩
            case measure => simp [intOf]; omega
          · have HN : Hid (E + EQ = enSum s (blockNs us (j + 1))) := by show _ = _; rw [blockNs_succ_yes hal, enSum_snoc, HE.out, ← HEQ.out]
            clear hbd hes hbn haq4 hal
            go_wp2
            go_roundw
            case rel => exact ⟨j + 1, by omega, by rw [HJ4.out], by rw [← HN.out], hbV⟩
            case measure => simp [intOf]; omega
    · have HJE : Hid (j = s.length / 4) := by show _ = _; omega
      have d1 : decide (4 * (j : Int) + 4 ≤ (s.length : Int)) = false := by simp; omega
      have ix0 : IntKind.i64.wrap (4 * (j : Int) + 4) = 4 * (j : Int) + 4 := by simp (disch := omega) only [IntWalk.i64_in]
      have HEN2 := HEN
      rw [← HJE.out] at HEN2
      have hPb : ∀ n, 0 ≤ P n ∧ P n ≤ 2048000000000000 := fun n => by
        rw [HPP.out]
        exact Fr.pows_bd (f := ⟨ga, li, none, 0, s, none, 0, gp⟩) HV.out n
      have b0 := hPb 0
      have b1 := hPb 1
      have b2 := hPb 2
      have b3 := hPb 3
      obtain ⟨E, hE⟩ : ∃ E, enSum s (blockNs us j) = E := ⟨_, rfl⟩
      rw [hE] at HEN2 ⊢
      have hEb := HEN2.out
      have ix5 : IntKind.i64.wrap (P 0 + P 1) = P 0 + P 1 := by simp (disch := omega) only [IntWalk.i64_in]
      have ix6 : IntKind.i64.wrap (P 0 + P 1 + P 2) = P 0 + P 1 + P 2 := by simp (disch := omega) only [IntWalk.i64_in]
      have ix7 : IntKind.i64.wrap (P 0 + P 1 + P 2 + P 3) = 4 * E := by simp (disch := omega) only [IntWalk.i64_in]; exact hEb
      have ix8 : IntKind.i64.wrap (4 * E) = 4 * E := by simp (disch := omega) only [IntWalk.i64_in]
      have hP11r := hP11.bel hbr
      have hP19r := hP19.bel hbr
      have m0 := hP11r.cell 0; have m1 := hP11r.cell 1; have m2 := hP11r.cell 2; have m3 := hP11r.cell 3; simp only [List.getElem?_cons_zero, List.getElem?_cons_succ] at m0 m1 m2 m3
      have HPB := hide hPb
      clear hE hEb b0 b1 b2 b3 HEN HEN2 hPb
      go_upto_region 30 with fail
      have hl11 := hP11r.lt
      have hl19 := hP19r.lt
      have hbV := hbr
      obtain ⟨wo, hwo⟩ : ∃ wo : World, wr = wo := ⟨_, rfl⟩
      rw [hwo] at hbV hbr hXr hP11r hP19r c0 c1 c2 c3 m0 m1 m2 m3 ⊢
      clear hwo hXr c0 c1 c2 c3 m0 m1 m2 m3 ix0 ix5 ix6 ix7 ix8 d1
      have HX3 := hide (HXV.out.bel hbV)
      go_loopw [26] (fun i wr => ∃ q : Nat, q ≤ 4 ∧ i = .int .i64 q ∧ Below wo.heap.size wo wr) (fun i _ => 4 - (intOf i).toNat)
      case atStart => exact ⟨0, Nat.zero_le _, rfl, Below.refl _ _⟩
      case round =>
        obtain ⟨q, hq, rfl, hbx⟩ := hrel
        by_cases hq4 : q < 4
        · obtain ⟨Rq, hRq, hm1, hm2⟩ : ∃ Rq : Int, Rq = (if (q : Int) ∈ lines then 0 else 16 * P q) ∧ wr.cell? ⟨p11, q, none⟩ = some (.int .i64 (P q)) ∧ wr.cell? ⟨p19, q, none⟩ = some (.int .i64 Rq) := by
            have e : q = 0 ∨ q = 1 ∨ q = 2 ∨ q = 3 := by omega
            rcases e with rfl | rfl | rfl | rfl
            · exact ⟨R0, HRv0.out, ((hP11r.bel hbx).cell 0), ((hP19r.bel hbx).cell 0)⟩
            · exact ⟨R1, HRv1.out, ((hP11r.bel hbx).cell 1), ((hP19r.bel hbx).cell 1)⟩
            · exact ⟨R2, HRv2.out, ((hP11r.bel hbx).cell 2), ((hP19r.bel hbx).cell 2)⟩
            · exact ⟨R3, HRv3.out, ((hP11r.bel hbx).cell 3), ((hP19r.bel hbx).cell 3)⟩
          have hpq := HPB.out q
          have HH := hide (has_c lines (q : Int) B cB wr (HX3.out.bel hbx) (by have := lines_four HZ1.out; omega))
          have ix1 : (0 : Int) ≤ (q : Int) := by omega
          have ix2 : (q : Int) < 4 := by omega
          generalize P q = PQ at hm1 hRq hpq
          have ix3 : IntKind.i64.wrap (16 * PQ) = 16 * PQ := by simp (disch := omega) only [IntWalk.i64_in]
          by_cases hin : (q : Int) ∈ lines
          · have hb : hasB lines (q : Int) = true := by unfold hasB; rw [List.contains_iff_mem]; exact hin
            rw [hb] at HH
            rw [if_pos hin] at hRq
            clear hin hb hpq
            subst hRq
            go_wp2_with (first
              | (go_at_call 20; refine HH.out.mono ?_; rintro e u1 ⟨rfl, rfl⟩))
            go_roundw
            case rel => exact ⟨q + 1, by omega, by go_num, hbx⟩
            case measure => simp [intOf]; omega
          · have hb : hasB lines (q : Int) = false := by
              cases h : hasB lines (q : Int)
              · rfl
              · unfold hasB at h; rw [List.contains_iff_mem] at h; exact absurd h hin
            rw [hb] at HH
            rw [if_neg hin] at hRq
            clear hin hb hpq
            subst hRq
            go_wp2_with (first
              | (go_at_call 20; refine HH.out.mono ?_; rintro e u1 ⟨rfl, rfl⟩))
            go_roundw
            case rel => exact ⟨q + 1, by omega, by go_num, hbx⟩
            case measure => simp [intOf]; omega
        · obtain rfl : q = 4 := by omega
          have d4 : decide (((4 : Nat) : Int) < 4) = false := rfl
          go_wp2
          go_ret
          exact ⟨rfl, tr hW6 (bel_tr hbV hbV.size hbx) hW6.size⟩

theorem removed_c (ga li : Int) (A G : Option Addr) (cA c : Nat) (s : List (Int × Int)) (gp : List Int) (ga2 li2 : Int) (A2 G2 : Option Addr) (cA2 c2 : Nat) (s2 : List (Int × Int)) (gp2 : List Int) (B : Option Addr) (cB : Nat) (lines : List Int) (w : World) (hT : Tab w) (hs : Rd w A (gs s)) (hr : Rd w G (ints gp)) (hs2 : Rd w A2 (gs s2)) (hr2 : Rd w G2 (ints gp2)) (hx : Rd w B (ints lines)) :
    Calls Tryd.prog 4 #[.agg #[.int .i64 ga, .int .i64 li, .slice A s.length cA, .slice G gp.length c], .agg #[.int .i64 ga2, .int .i64 li2, .slice A2 s2.length cA2, .slice G2 gp2.length c2], .slice B lines.length cB] w fun r w' => r = .returned (.bool true) ∧ Below w.heap.size w w' := by
  cases hf : fewB s.length gp.length
  · exact removed_1 ga li A G cA c s gp ga2 li2 A2 G2 cA2 c2 s2 gp2 B cB lines w hT hs hr hs2 hr2 hx hf
  · cases hf2 : fewB s2.length gp2.length
    · exact removed_2 ga li A G cA c s gp ga2 li2 A2 G2 cA2 c2 s2 gp2 B cB lines w hT hs hr hs2 hr2 hx hf hf2
    · by_cases hv : (frameE ga li s gp).2 = 0
      · by_cases hv2 : (frameE ga2 li2 s2 gp2).2 = 0
        · by_cases h4 : 4 < lines.length
          · exact removed_5 ga li A G cA c s gp ga2 li2 A2 G2 cA2 c2 s2 gp2 B cB lines w hT hs hr hs2 hr2 hx hf hf2 hv hv2 h4
          · by_cases hz : remE ga li lines = 0
            · exact removed_7 ga li A G cA c s gp ga2 li2 A2 G2 cA2 c2 s2 gp2 B cB lines w hT hs hr hs2 hr2 hx hf hf2 hv hv2 (by omega) hz
            · exact removed_6 ga li A G cA c s gp ga2 li2 A2 G2 cA2 c2 s2 gp2 B cB lines w hT hs hr hs2 hr2 hx hf hf2 hv hv2 (by omega) hz
        · exact removed_4 ga li A G cA c s gp ga2 li2 A2 G2 cA2 c2 s2 gp2 B cB lines w hT hs hr hs2 hr2 hx hf hf2 hv hv2
      · exact removed_3 ga li A G cA c s gp ga2 li2 A2 G2 cA2 c2 s2 gp2 B cB lines w hT hs hr hs2 hr2 hx hf hf2 hv
end Go.Proofs.YtnigmdkhecblnaaDoor
