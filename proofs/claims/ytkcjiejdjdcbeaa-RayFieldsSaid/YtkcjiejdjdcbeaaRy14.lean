/- What a ray without an error is; the ground distance of a ray, or the errors. -/
import Derived.Test.YtkcjiejdjdcbeaaRy13
set_option linter.unusedSimpArgs false
set_option linter.unusedVariables false
set_option linter.unusedSimpArgs false
set_option linter.unusedVariables false
namespace Go.Proofs.Ytkcjiejdjdcbeaa
open Go.RowKit
set_option maxRecDepth 100000

theorem firstBadFrom_snd {α : Type} {chk : Nat → α → Int} {l : List α} (h : (firstBadFrom chk 0 l).2 = 0) : ∀ k (hk : k < l.length), chk k l[k] = 0 := by
  intro k
  induction k using Nat.strongRecOn with
  | _ k ih =>
    intro hk
    by_cases e : chk k l[k] = 0
    · exact e
    · have := firstBadFrom_some chk l 0 k hk (fun i hi => by simpa using ih i hi (by omega)) (by simpa using e)
      rw [this] at h
      simpa using h

theorem firstE_zero {e : Int} {l : List Int} : firstE (e :: l) = 0 ↔ e = 0 ∧ firstE l = 0 := by
  by_cases h : e = 0
  · subst h; simp [firstE]
  · simp [firstE, h]
theorem errIf_none {b : Bool} {e : Int} (he : e ≠ 0) : errIf b e = 0 ↔ b = false := by cases b <;> simp [errIf, he]
theorem skyE_zero {H : Int} {l : List G} (h : (skyE H l).2 = 0) : 1 ≤ H ∧ H ≤ 500 ∧ 1 ≤ l.length ∧ l.length ≤ 12 ∧ OkS l := by
  unfold skyE at h
  by_cases h0 : skyHead H l.length = 0
  · rw [if_pos h0] at h
    unfold skyHead at h0
    rw [firstE_zero, firstE_zero, firstE_zero] at h0
    obtain ⟨a1, a2, a3, _⟩ := h0
    rw [errIf_none (by decide)] at a1 a2 a3
    have b1 := outB_false.1 a1
    simp only [beq_eq_false_iff_ne, ne_eq, decide_eq_false_iff_not] at a2 a3
    refine ⟨b1.1, b1.2, by omega, by omega, fun g hg => ?_⟩
    obtain ⟨k, hk, rfl⟩ := List.getElem_of_mem hg
    have := firstBadFrom_snd h k hk
    unfold slabE at this
    rw [firstE_zero, firstE_zero] at this
    obtain ⟨c1, c2, _⟩ := this
    rw [errIf_none (by decide)] at c1 c2
    have d1 := outB_false.1 c1
    have d2 := outB_false.1 c2
    omega
  · rw [if_neg h0] at h
    exact absurd h h0
theorem launchE_zero {n d : Int} (h : launchE n d = 0) : 1 ≤ d ∧ d ≤ 100 ∧ 0 ≤ n ∧ n < d ∧ Int.gcd n d = 1 := by
  unfold launchE at h
  by_cases h0 : d < 1 ∨ 1 < (Int.gcd n d : Int)
  · rw [if_pos h0] at h; omega
  · rw [if_neg h0, errIf_none (by decide), Bool.or_eq_false_iff, decide_eq_false_iff_not] at h
    have h1 := outB_false.1 h.2
    have h2 := gcd_pos n d (by omega)
    omega
theorem freqE_zero {f : Int} (h : freqE f = 0) : 1 ≤ f ∧ f ≤ 3000 := by
  unfold freqE at h
  rw [errIf_none (by decide)] at h
  exact outB_false.1 h
theorem shotE_zero {f n d : Int} (h : shotE f n d = 0) : (1 ≤ f ∧ f ≤ 3000) ∧ 1 ≤ d ∧ d ≤ 100 ∧ 0 ≤ n ∧ n < d ∧ Int.gcd n d = 1 := by
  unfold shotE at h
  rw [firstE_zero, firstE_zero] at h
  exact ⟨freqE_zero h.1, launchE_zero h.2.1⟩
theorem rayE_zero {H f n d : Int} {l : List G} (h : rayE H f n d l = 0) : (1 ≤ H ∧ H ≤ 500 ∧ 1 ≤ l.length ∧ l.length ≤ 12 ∧ OkS l) ∧ (1 ≤ f ∧ f ≤ 3000) ∧ 1 ≤ d ∧ d ≤ 100 ∧ 0 ≤ n ∧ n < d ∧ Int.gcd n d = 1 := by
  unfold rayE at h
  rw [firstE_zero, firstE_zero] at h
  exact ⟨skyE_zero h.1, shotE_zero h.2.1⟩
/-- A ground distance, and its error. -/
def grdE (H f n d : Int) (l : List G) : G × Int := if rayE H f n d l ≠ 0 then ((0, 0), rayE H f n d l) else if pasN f n d l = l.length then ((0, 0), 21) else (grdQ H f n d l, 0)
theorem groundOf_bad (H f n d : Int) (A : Option Addr) (c : Nat) (l : List G) (w : World) (hr : Rd w A (gs l)) (hl : l.length ≤ 1000) (g1 : -9223372036854775808 ≤ n) (g2 : n ≤ 9223372036854775807) (g3 : d ≤ 9223372036854775807) (he : rayE H f n d l ≠ 0) :
    Calls Try.prog 32 #[.agg #[.int .i64 H, .slice A l.length c], .int .i64 f, .agg #[.int .i64 n, .int .i64 d]] w fun r w' => r = .returned (.tuple #[.agg #[.int .i64 (grdE H f n d l).1.1, .int .i64 (grdE H f n d l).1.2], .int .i64 (grdE H f n d l).2]) ∧ Below w.heap.size w w' := by
  have HS := hide (fun W (h : Rd W A (gs l)) => shotOf_bad H f n d A c l W h hl g1 g2 g3 he)
  have HR : Hid (grdE H f n d l = ((0, 0), rayE H f n d l)) := by show _ = _; unfold grdE; rw [if_pos he]
  generalize rayE H f n d l = e at HS HR he
  have e1 : (e != 0) = true := by simpa using he
  unfold shotV at HS
  clear he
  obtain ⟨q, hq⟩ : ∃ q, w.heap.size = q := ⟨_, rfl⟩
  obtain ⟨q1, hq1⟩ : ∃ q1, q + 1 = q1 := ⟨_, rfl⟩
  obtain ⟨q2, hq2⟩ : ∃ q2, q1 + 1 = q2 := ⟨_, rfl⟩
  obtain ⟨Wa, hWa⟩ : ∃ Wa, w.alloc (.cells #[.int .i64 H, .slice A l.length c] 24) = Wa := ⟨_, rfl⟩
  have ba : Below w.heap.size w Wa := by rw [← hWa]; exact alloc_bel _ _
  have sa : Wa.heap.size = q1 := by rw [← hWa, ← hq1, ← hq]; simp
  have ka : Blk Wa q 24 [.int .i64 H, .slice A l.length c] := by rw [← hWa, ← hq]; exact Blk.new w _ [_, _]
  obtain ⟨Wb, hWb⟩ : ∃ Wb, Wa.alloc (.cells #[.int .i64 n, .int .i64 d] 26) = Wb := ⟨_, rfl⟩
  have bb : Below Wa.heap.size Wa Wb := by rw [← hWb]; exact alloc_bel _ _
  have sb : Wb.heap.size = q2 := by rw [← hWb, ← hq2, ← sa]; simp
  have kb : Blk Wb q1 26 [.int .i64 n, .int .i64 d] := by rw [← hWb, ← sa]; exact Blk.new Wa _ [_, _]
  obtain ⟨Wc, hWc⟩ : ∃ Wc, Wb.alloc (.cells #[.int .i64 0, .int .i64 0] 55) = Wc := ⟨_, rfl⟩
  have bc : Below Wb.heap.size Wb Wc := by rw [← hWc]; exact alloc_bel _ _
  have kc : Blk Wc q2 55 [.int .i64 0, .int .i64 0] := by rw [← hWc, ← sb]; exact Blk.new Wb _ _
  have hABC : ((w.alloc (.cells #[.int .i64 H, .slice A l.length c] 24)).alloc (.cells #[.int .i64 n, .int .i64 d] 26)).alloc (.cells #[.int .i64 0, .int .i64 0] 55) = Wc := by rw [hWa, hWb, hWc]
  have HW := hide hABC
  have k1 := (ka.bel bb).bel bc
  have k2 := kb.bel bc
  have hrc := ((hr.bel ba).bel bb).bel bc
  have hBc : Below q w Wc := by
    rw [hq] at ba
    rw [sa] at bb
    rw [sb] at bc
    exact (ba.trans (bb.mono (by omega))).trans (bc.mono (by omega))
  have zc : q < Wc.heap.size ∧ q1 < Wc.heap.size ∧ q2 < Wc.heap.size := ⟨k1.lt, k2.lt, kc.lt⟩
  clear hABC hWa hWb hWc ba bb bc ka kb sa sb
  have s0 := k1.cell 0; have s1 := k1.cell 1; simp only [List.getElem?_cons_zero, List.getElem?_cons_succ] at s0 s1
  have t0 := k2.cell 0; have t1 := k2.cell 1; simp only [List.getElem?_cons_zero, List.getElem?_cons_succ] at t0 t1
  go_enter Try.func32, Try.ntmps32
  go_upto_region 1 with fail
  try simp only [World.size_alloc, hq, hq1, hq2]
  rw [HW.out]
  go_upto_region 2 with (go_at_call 103; refine (HS.out _ hrc).mono ?_; rintro e_ w1 ⟨rfl, hb1⟩)
  obtain ⟨v, hv⟩ : ∃ v, w1.heap.size = v := ⟨_, rfl⟩
  obtain ⟨W2, hW2⟩ : ∃ W2, w1.alloc (.cells #[.int .i64 0, .slice none 0 0, .int .i64 0, .int .i64 0, .int .i64 0] 159) = W2 := ⟨_, rfl⟩
  have hbS : Below w1.heap.size w1 W2 := by rw [← hW2]; exact alloc_bel _ _
  have kS2 : Blk W2 v 159 [.int .i64 0, .slice none 0 0, .int .i64 0, .int .i64 0, .int .i64 0] := by rw [← hW2, ← hv]; exact Blk.new w1 _ _
  have kc2 := (kc.bel hb1).bel hbS
  have hB2 : Below q w W2 := (hBc.trans (hb1.mono (by omega))).trans (hbS.mono (by have := hb1.size; omega))
  have z2 : q < W2.heap.size := by have := hbS.size; have := hb1.size; omega
  rw [hW2]
  try simp only [hv]
  clear hW2 s0 s1 t0 t1 k1 k2
  obtain ⟨x0, x1, f0, f1⟩ := blk_two kc2
  go_wp2
  obtain ⟨WE, hWE⟩ : ∃ WE, (W2.setCell ⟨q2, 0, none⟩ (.int .i64 (0))).setCell ⟨q2, 1, none⟩ (.int .i64 (0)) = WE := ⟨_, rfl⟩
  rw [hWE]
  have hE : Blk WE q2 55 [.int .i64 (0), .int .i64 (0)] := by rw [← hWE]; exact (kc2.set_ 0 _).set_ 1 _
  have hqq : q ≤ q2 := by omega
  have hBE : Below q w WE := by rw [← hWE]; exact (hB2.setCell hqq _).setCell hqq _
  clear hWE
  have g0 := hE.cell 0; have g1 := hE.cell 1; simp only [List.getElem?_cons_zero, List.getElem?_cons_succ] at g0 g1
  exact bodyPost_ret (v := .tuple #[.agg #[.int .i64 (0), .int .i64 (0)], .int .i64 (e)]) (by simp [results, Try.results32, go_sem, g0, g1]; try rfl) rfl ⟨by rw [HR.out]; try rfl, by first | exact hBE | (rw [hq]; exact hBE)⟩
/-- What a ray without an error hands on. -/
structure OkR (H f n d : Int) (l : List G) : Prop where
  hH0 : 1 ≤ H
  hH1 : H ≤ 500
  l0 : 1 ≤ l.length
  l1 : l.length ≤ 12
  ok : OkS l
  f0 : 1 ≤ f
  f1 : f ≤ 3000
  d0 : 1 ≤ d
  d1 : d ≤ 100
  n0 : 0 ≤ n
  n1 : n < d
  g : Int.gcd n d = 1
theorem okR {H f n d : Int} {l : List G} (h : rayE H f n d l = 0) : OkR H f n d l := by
  obtain ⟨⟨a, b, c, e, g⟩, ⟨i, j⟩, k, m, o, p, q⟩ := rayE_zero h
  exact ⟨a, b, c, e, g, i, j, k, m, o, p, q⟩
set_option maxHeartbeats 2000000 in
theorem groundOf_ok (H f n d : Int) (A : Option Addr) (c : Nat) (l : List G) (w : World) (hr : Rd w A (gs l)) (hc : l.length ≤ c) (he : rayE H f n d l = 0) :
    Calls Try.prog 32 #[.agg #[.int .i64 H, .slice A l.length c], .int .i64 f, .agg #[.int .i64 n, .int .i64 d]] w fun r w' => r = .returned (.tuple #[.agg #[.int .i64 (grdE H f n d l).1.1, .int .i64 (grdE H f n d l).1.2], .int .i64 (grdE H f n d l).2]) ∧ Below w.heap.size w w' := by
  have ho := okR he
  have HS := hide (fun W (h : Rd W A (gs l)) => shotOf_ok H f n d A c l W h (by have := ho.l1; omega) (by have := ho.n0; omega) (by have := ho.n1; have := ho.d1; omega) (by have := ho.d1; omega) he)
  have HX := hide (fun W (h : Rd W A (gs l)) => escapes_c H f n d A c l W h (by have := ho.l1; omega) ho.ok ho.f0 ho.f1 ho.n0 (by have := ho.n1; have := ho.d1; omega) ho.d0 ho.d1)
  have HG := hide (fun W (h : Rd W A (gs l)) => ground_c H f n d A c l W h (by have := ho.l1; omega) ho.l0 hc ho.ok (by have := ho.hH0; omega) ho.hH1 ho.f0 ho.f1 ho.n0 ho.n1 ho.d1)
  have HR : Hid (grdE H f n d l = if pasN f n d l = l.length then ((0, 0), 21) else (grdQ H f n d l, 0)) := by show _ = _; unfold grdE; rw [if_neg (by rw [he]; simp)]
  unfold shotV at HS
  generalize grdQ H f n d l = z at HG HR
  obtain ⟨za, zb⟩ := z
  dsimp only at HG HR
  clear ho he
  by_cases hp : pasN f n d l = l.length
  · rw [decide_eq_true hp] at HX
    have HR2 : Hid (grdE H f n d l = ((0, 0), 21)) := by show _ = _; rw [HR.out, if_pos hp]
    clear HR hp HG
    have HR := HR2
    clear HR2
    obtain ⟨q, hq⟩ : ∃ q, w.heap.size = q := ⟨_, rfl⟩
    obtain ⟨q1, hq1⟩ : ∃ q1, q + 1 = q1 := ⟨_, rfl⟩
    obtain ⟨q2, hq2⟩ : ∃ q2, q1 + 1 = q2 := ⟨_, rfl⟩
    obtain ⟨Wa, hWa⟩ : ∃ Wa, w.alloc (.cells #[.int .i64 H, .slice A l.length c] 24) = Wa := ⟨_, rfl⟩
    have ba : Below w.heap.size w Wa := by rw [← hWa]; exact alloc_bel _ _
    have sa : Wa.heap.size = q1 := by rw [← hWa, ← hq1, ← hq]; simp
    have ka : Blk Wa q 24 [.int .i64 H, .slice A l.length c] := by rw [← hWa, ← hq]; exact Blk.new w _ [_, _]
    obtain ⟨Wb, hWb⟩ : ∃ Wb, Wa.alloc (.cells #[.int .i64 n, .int .i64 d] 26) = Wb := ⟨_, rfl⟩
    have bb : Below Wa.heap.size Wa Wb := by rw [← hWb]; exact alloc_bel _ _
    have sb : Wb.heap.size = q2 := by rw [← hWb, ← hq2, ← sa]; simp
    have kb : Blk Wb q1 26 [.int .i64 n, .int .i64 d] := by rw [← hWb, ← sa]; exact Blk.new Wa _ [_, _]
    obtain ⟨Wc, hWc⟩ : ∃ Wc, Wb.alloc (.cells #[.int .i64 0, .int .i64 0] 55) = Wc := ⟨_, rfl⟩
    have bc : Below Wb.heap.size Wb Wc := by rw [← hWc]; exact alloc_bel _ _
    have kc : Blk Wc q2 55 [.int .i64 0, .int .i64 0] := by rw [← hWc, ← sb]; exact Blk.new Wb _ _
    have hABC : ((w.alloc (.cells #[.int .i64 H, .slice A l.length c] 24)).alloc (.cells #[.int .i64 n, .int .i64 d] 26)).alloc (.cells #[.int .i64 0, .int .i64 0] 55) = Wc := by rw [hWa, hWb, hWc]
    have HW := hide hABC
    have k1 := (ka.bel bb).bel bc
    have k2 := kb.bel bc
    have hrc := ((hr.bel ba).bel bb).bel bc
    have hBc : Below q w Wc := by
      rw [hq] at ba
      rw [sa] at bb
      rw [sb] at bc
      exact (ba.trans (bb.mono (by omega))).trans (bc.mono (by omega))
    have zc : q < Wc.heap.size ∧ q1 < Wc.heap.size ∧ q2 < Wc.heap.size := ⟨k1.lt, k2.lt, kc.lt⟩
    clear hABC hWa hWb hWc ba bb bc ka kb sa sb
    have s0 := k1.cell 0; have s1 := k1.cell 1; simp only [List.getElem?_cons_zero, List.getElem?_cons_succ] at s0 s1
    have t0 := k2.cell 0; have t1 := k2.cell 1; simp only [List.getElem?_cons_zero, List.getElem?_cons_succ] at t0 t1
    go_enter Try.func32, Try.ntmps32
    go_upto_region 1 with fail
    try simp only [World.size_alloc, hq, hq1, hq2]
    rw [HW.out]
    go_upto_region 2 with (go_at_call 103; refine (HS.out _ hrc).mono ?_; rintro e_ w1 ⟨rfl, hb1⟩)
    obtain ⟨v, hv⟩ : ∃ v, w1.heap.size = v := ⟨_, rfl⟩
    obtain ⟨W2, hW2⟩ : ∃ W2, w1.alloc (.cells #[.int .i64 H, .slice A l.length c, .int .i64 f, .int .i64 n, .int .i64 d] 159) = W2 := ⟨_, rfl⟩
    have hbS : Below w1.heap.size w1 W2 := by rw [← hW2]; exact alloc_bel _ _
    have kS2 : Blk W2 v 159 [.int .i64 H, .slice A l.length c, .int .i64 f, .int .i64 n, .int .i64 d] := by rw [← hW2, ← hv]; exact Blk.new w1 _ _
    have kc2 := (kc.bel hb1).bel hbS
    have hB2 : Below q w W2 := (hBc.trans (hb1.mono (by omega))).trans (hbS.mono (by have := hb1.size; omega))
    have z2 : q < W2.heap.size := by have := hbS.size; have := hb1.size; omega
    rw [hW2]
    try simp only [hv]
    clear hW2 s0 s1 t0 t1 k1 k2
    have s0 := kS2.cell 0; have s1 := kS2.cell 1; have s2 := kS2.cell 2; have s3 := kS2.cell 3; have s4 := kS2.cell 4; simp only [List.getElem?_cons_zero, List.getElem?_cons_succ] at s0 s1 s2 s3 s4
    have hr2 := (hrc.bel hb1).bel hbS
    go_wp2_with (go_at_call 106; refine (HX.out _ hr2).mono ?_; rintro e_ w3 ⟨rfl, hb3⟩; have kc3 := kc2.bel hb3; have hB3 : Below q w w3 := hB2.trans (hb3.mono (by omega)); obtain ⟨x0, x1, f0, f1⟩ := blk_two kc3)
    obtain ⟨WE, hWE⟩ : ∃ WE, (w3.setCell ⟨q2, 0, none⟩ (.int .i64 (0))).setCell ⟨q2, 1, none⟩ (.int .i64 (0)) = WE := ⟨_, rfl⟩
    rw [hWE]
    have hE : Blk WE q2 55 [.int .i64 (0), .int .i64 (0)] := by rw [← hWE]; exact (kc3.set_ 0 _).set_ 1 _
    have hqq : q ≤ q2 := by omega
    have hBE : Below q w WE := by rw [← hWE]; exact (hB3.setCell hqq _).setCell hqq _
    clear hWE
    have g0 := hE.cell 0; have g1 := hE.cell 1; simp only [List.getElem?_cons_zero, List.getElem?_cons_succ] at g0 g1
    exact bodyPost_ret (v := .tuple #[.agg #[.int .i64 (0), .int .i64 (0)], .int .i64 (21)]) (by simp [results, Try.results32, go_sem, g0, g1]; try rfl) rfl ⟨by rw [HR.out]; try rfl, by first | exact hBE | (rw [hq]; exact hBE)⟩
  · rw [decide_eq_false hp] at HX
    have HR2 : Hid (grdE H f n d l = ((za, zb), 0)) := by show _ = _; rw [HR.out, if_neg hp]
    clear HR hp
    have HR := HR2
    clear HR2
    obtain ⟨q, hq⟩ : ∃ q, w.heap.size = q := ⟨_, rfl⟩
    obtain ⟨q1, hq1⟩ : ∃ q1, q + 1 = q1 := ⟨_, rfl⟩
    obtain ⟨q2, hq2⟩ : ∃ q2, q1 + 1 = q2 := ⟨_, rfl⟩
    obtain ⟨Wa, hWa⟩ : ∃ Wa, w.alloc (.cells #[.int .i64 H, .slice A l.length c] 24) = Wa := ⟨_, rfl⟩
    have ba : Below w.heap.size w Wa := by rw [← hWa]; exact alloc_bel _ _
    have sa : Wa.heap.size = q1 := by rw [← hWa, ← hq1, ← hq]; simp
    have ka : Blk Wa q 24 [.int .i64 H, .slice A l.length c] := by rw [← hWa, ← hq]; exact Blk.new w _ [_, _]
    obtain ⟨Wb, hWb⟩ : ∃ Wb, Wa.alloc (.cells #[.int .i64 n, .int .i64 d] 26) = Wb := ⟨_, rfl⟩
    have bb : Below Wa.heap.size Wa Wb := by rw [← hWb]; exact alloc_bel _ _
    have sb : Wb.heap.size = q2 := by rw [← hWb, ← hq2, ← sa]; simp
    have kb : Blk Wb q1 26 [.int .i64 n, .int .i64 d] := by rw [← hWb, ← sa]; exact Blk.new Wa _ [_, _]
    obtain ⟨Wc, hWc⟩ : ∃ Wc, Wb.alloc (.cells #[.int .i64 0, .int .i64 0] 55) = Wc := ⟨_, rfl⟩
    have bc : Below Wb.heap.size Wb Wc := by rw [← hWc]; exact alloc_bel _ _
    have kc : Blk Wc q2 55 [.int .i64 0, .int .i64 0] := by rw [← hWc, ← sb]; exact Blk.new Wb _ _
    have hABC : ((w.alloc (.cells #[.int .i64 H, .slice A l.length c] 24)).alloc (.cells #[.int .i64 n, .int .i64 d] 26)).alloc (.cells #[.int .i64 0, .int .i64 0] 55) = Wc := by rw [hWa, hWb, hWc]
    have HW := hide hABC
    have k1 := (ka.bel bb).bel bc
    have k2 := kb.bel bc
    have hrc := ((hr.bel ba).bel bb).bel bc
    have hBc : Below q w Wc := by
      rw [hq] at ba
      rw [sa] at bb
      rw [sb] at bc
      exact (ba.trans (bb.mono (by omega))).trans (bc.mono (by omega))
    have zc : q < Wc.heap.size ∧ q1 < Wc.heap.size ∧ q2 < Wc.heap.size := ⟨k1.lt, k2.lt, kc.lt⟩
    clear hABC hWa hWb hWc ba bb bc ka kb sa sb
    have s0 := k1.cell 0; have s1 := k1.cell 1; simp only [List.getElem?_cons_zero, List.getElem?_cons_succ] at s0 s1
    have t0 := k2.cell 0; have t1 := k2.cell 1; simp only [List.getElem?_cons_zero, List.getElem?_cons_succ] at t0 t1
    go_enter Try.func32, Try.ntmps32
    go_upto_region 1 with fail
    try simp only [World.size_alloc, hq, hq1, hq2]
    rw [HW.out]
    go_upto_region 2 with (go_at_call 103; refine (HS.out _ hrc).mono ?_; rintro e_ w1 ⟨rfl, hb1⟩)
    obtain ⟨v, hv⟩ : ∃ v, w1.heap.size = v := ⟨_, rfl⟩
    obtain ⟨W2, hW2⟩ : ∃ W2, w1.alloc (.cells #[.int .i64 H, .slice A l.length c, .int .i64 f, .int .i64 n, .int .i64 d] 159) = W2 := ⟨_, rfl⟩
    have hbS : Below w1.heap.size w1 W2 := by rw [← hW2]; exact alloc_bel _ _
    have kS2 : Blk W2 v 159 [.int .i64 H, .slice A l.length c, .int .i64 f, .int .i64 n, .int .i64 d] := by rw [← hW2, ← hv]; exact Blk.new w1 _ _
    have kc2 := (kc.bel hb1).bel hbS
    have hB2 : Below q w W2 := (hBc.trans (hb1.mono (by omega))).trans (hbS.mono (by have := hb1.size; omega))
    have z2 : q < W2.heap.size := by have := hbS.size; have := hb1.size; omega
    rw [hW2]
    try simp only [hv]
    clear hW2 s0 s1 t0 t1 k1 k2
    have s0 := kS2.cell 0; have s1 := kS2.cell 1; have s2 := kS2.cell 2; have s3 := kS2.cell 3; have s4 := kS2.cell 4; simp only [List.getElem?_cons_zero, List.getElem?_cons_succ] at s0 s1 s2 s3 s4
    have hr2 := (hrc.bel hb1).bel hbS
    go_wp2_with (first
      | (go_at_call 106; refine (HX.out _ hr2).mono ?_; rintro e_ w3 ⟨rfl, hb3⟩; have kS3 := kS2.bel hb3; obtain ⟨u0, u1, u2, u3, u4⟩ := blk_five kS3)
      | (go_at_call 109; refine (HG.out _ (hr2.bel hb3)).mono ?_; rintro e_ w4 ⟨rfl, hb4⟩; have kc4 := (kc2.bel hb3).bel hb4; have hB4 : Below q w w4 := (hB2.trans (hb3.mono (by omega))).trans (hb4.mono (by have := hb3.size; omega)); obtain ⟨x0, x1, f0, f1⟩ := blk_two kc4))
    obtain ⟨WE, hWE⟩ : ∃ WE, (w4.setCell ⟨q2, 0, none⟩ (.int .i64 (za))).setCell ⟨q2, 1, none⟩ (.int .i64 (zb)) = WE := ⟨_, rfl⟩
    rw [hWE]
    have hE : Blk WE q2 55 [.int .i64 (za), .int .i64 (zb)] := by rw [← hWE]; exact (kc4.set_ 0 _).set_ 1 _
    have hqq : q ≤ q2 := by omega
    have hBE : Below q w WE := by rw [← hWE]; exact (hB4.setCell hqq _).setCell hqq _
    clear hWE
    have g0 := hE.cell 0; have g1 := hE.cell 1; simp only [List.getElem?_cons_zero, List.getElem?_cons_succ] at g0 g1
    exact bodyPost_ret (v := .tuple #[.agg #[.int .i64 (za), .int .i64 (zb)], .int .i64 (0)]) (by simp [results, Try.results32, go_sem, g0, g1]; try rfl) rfl ⟨by rw [HR.out]; try rfl, by first | exact hBE | (rw [hq]; exact hBE)⟩
theorem groundOf_c (H f n d : Int) (A : Option Addr) (c : Nat) (l : List G) (w : World) (hr : Rd w A (gs l)) (hl : l.length ≤ 1000) (hc : l.length ≤ c) (g1 : -9223372036854775808 ≤ n) (g2 : n ≤ 9223372036854775807) (g3 : d ≤ 9223372036854775807) :
    Calls Try.prog 32 #[.agg #[.int .i64 H, .slice A l.length c], .int .i64 f, .agg #[.int .i64 n, .int .i64 d]] w fun r w' => r = .returned (.tuple #[.agg #[.int .i64 (grdE H f n d l).1.1, .int .i64 (grdE H f n d l).1.2], .int .i64 (grdE H f n d l).2]) ∧ Below w.heap.size w w' := by
  by_cases he : rayE H f n d l = 0
  · exact groundOf_ok H f n d A c l w hr hc he
  · exact groundOf_bad H f n d A c l w hr hl g1 g2 g3 he
end Go.Proofs.Ytkcjiejdjdcbeaa
