/- Contracts: the usable frequencies of a valid task. -/
import Derived.Test.YtkcjiejdjdcbeaaRy38
import Derived.Test.YtkcjiejdjdcbeaaRy26
set_option linter.unusedSimpArgs false
set_option linter.unusedVariables false
set_option linter.unusedSimpArgs false
set_option linter.unusedVariables false
namespace Go.Proofs.Ytkcjiejdjdcbeaa
open Go.RowKit
set_option maxRecDepth 100000

/-- What a frequency adds: the sure one, its launch, the perhaps usable one. -/
def usStep (H : Int) (M : Nat) (lo hi : Int) (l : List G) (s : Int × Int × Int) (f : Int) : Int × Int × Int :=
  (if 0 ≤ iIdx 2 (ansL H f M lo hi l) then f else s.1, if 0 ≤ iIdx 2 (ansL H f M lo hi l) then iIdx 2 (ansL H f M lo hi l) else s.2.1, if 0 < mxQ (ansL H f M lo hi l) then f else s.2.2)
def usAll (H : Int) (M : Nat) (lo hi : Int) (l : List G) (fs : List Int) : Int × Int × Int := fs.foldl (usStep H M lo hi l) (0, 0, 0)
theorem usAll_take {H : Int} {M : Nat} {lo hi : Int} {l : List G} {fs : List Int} {k : Nat} (hk : k < fs.length) : usAll H M lo hi l (fs.take (k + 1)) = usStep H M lo hi l (usAll H M lo hi l (fs.take k)) fs[k] := by
  unfold usAll
  rw [List.take_succ_eq_append_getElem hk, List.foldl_append]
  rfl
theorem ansL_len (H f : Int) (M : Nat) (lo hi : Int) (l : List G) : (ansL H f M lo hi l).length = M := by simp [ansL]
set_option maxHeartbeats 4000000 in
theorem usableFor_c (H : Int) (M : Nat) (lo hi : Int) (fs : List Int) (A B : Option Addr) (c d : Nat) (l : List G) (w : World) (hr : Rd w A (gs l)) (hs : Rd w B (ints fs)) (hc : l.length ≤ c) (H0 : 1 ≤ H) (H1 : H ≤ 500) (l0 : 1 ≤ l.length) (l1 : l.length ≤ 12) (hok : OkS l) (M0 : 1 ≤ M) (M1 : M ≤ 100) (hf : ∀ f ∈ fs, 1 ≤ f ∧ f ≤ 3000) (hfl : fs.length ≤ 1000) :
    Calls Try.prog 130 #[.agg #[.int .i64 H, .slice A l.length c], .agg #[.int .i64 (M : Int), .int .i64 lo, .int .i64 hi, .slice B fs.length d]] w fun r w' => r = .returned (.agg #[.int .i64 (usAll H M lo hi l fs).1, .int .i64 (usAll H M lo hi l fs).2.1, .int .i64 (usAll H M lo hi l fs).2.2]) ∧ Below w.heap.size w w' := by
  have HAF := hide (fun f (h1 : 1 ≤ f) (h2 : f ≤ 3000) W (h : Rd W A (gs l)) => answersFor_c H f M lo hi (.slice B fs.length d) A c l W h hc H0 H1 l0 l1 hok h1 h2 M0 M1)
  obtain ⟨q, hq⟩ : ∃ q, w.heap.size = q := ⟨_, rfl⟩
  obtain ⟨q1, hq1⟩ : ∃ q1, q + 1 = q1 := ⟨_, rfl⟩
  obtain ⟨q2, hq2⟩ : ∃ q2, q1 + 1 = q2 := ⟨_, rfl⟩
  obtain ⟨q3, hq3⟩ : ∃ q3, q2 + 1 = q3 := ⟨_, rfl⟩
  obtain ⟨Wa, hWa⟩ : ∃ Wa, w.alloc (.cells #[.int .i64 H, .slice A l.length c] 24) = Wa := ⟨_, rfl⟩
  obtain ⟨Wb, hWb⟩ : ∃ Wb, Wa.alloc (.cells #[.int .i64 (M : Int), .int .i64 lo, .int .i64 hi, .slice B fs.length d] 95) = Wb := ⟨_, rfl⟩
  obtain ⟨Wc, hWc⟩ : ∃ Wc, Wb.alloc (.cells #[.int .i64 0, .int .i64 0, .int .i64 0] 111) = Wc := ⟨_, rfl⟩
  obtain ⟨Wd, hWd⟩ : ∃ Wd, Wc.alloc (.cells #[.int .i64 0, .int .i64 0, .int .i64 0] 111) = Wd := ⟨_, rfl⟩
  have ba : Below w.heap.size w Wa := by rw [← hWa]; exact alloc_bel _ _
  have bb : Below Wa.heap.size Wa Wb := by rw [← hWb]; exact alloc_bel _ _
  have bc : Below Wb.heap.size Wb Wc := by rw [← hWc]; exact alloc_bel _ _
  have bd : Below Wc.heap.size Wc Wd := by rw [← hWd]; exact alloc_bel _ _
  have sa : Wa.heap.size = q1 := by rw [← hWa, ← hq1, ← hq]; simp
  have sb : Wb.heap.size = q2 := by rw [← hWb, ← hq2, ← sa]; simp
  have sc : Wc.heap.size = q3 := by rw [← hWc, ← hq3, ← sb]; simp
  have ka : Blk Wa q 24 [.int .i64 H, .slice A l.length c] := by rw [← hWa, ← hq]; exact Blk.new w _ [_, _]
  have kb : Blk Wb q1 95 [.int .i64 (M : Int), .int .i64 lo, .int .i64 hi, .slice B fs.length d] := by rw [← hWb, ← sa]; exact Blk.new Wa _ [_, _, _, _]
  have kc : Blk Wc q2 111 [.int .i64 0, .int .i64 0, .int .i64 0] := by rw [← hWc, ← sb]; exact Blk.new Wb _ [_, _, _]
  have kd : Blk Wd q3 111 [.int .i64 0, .int .i64 0, .int .i64 0] := by rw [← hWd, ← sc]; exact Blk.new Wc _ [_, _, _]
  have hAD : (((w.alloc (.cells #[.int .i64 H, .slice A l.length c] 24)).alloc (.cells #[.int .i64 (M : Int), .int .i64 lo, .int .i64 hi, .slice B fs.length d] 95)).alloc (.cells #[.int .i64 0, .int .i64 0, .int .i64 0] 111)).alloc (.cells #[.int .i64 0, .int .i64 0, .int .i64 0] 111) = Wd := by rw [hWa, hWb, hWc, hWd]
  have HAD := hide hAD
  have k0 := ((ka.bel bb).bel bc).bel bd
  have k1 := (kb.bel bc).bel bd
  have k2 := kc.bel bd
  have hBd : Below q w Wd := by
    rw [hq] at ba
    exact ((ba.trans (bb.mono (by omega))).trans (bc.mono (by omega))).trans (bd.mono (by omega))
  clear hAD hWa hWb hWc hWd ba bb bc bd ka kb kc sa sb sc
  have g2 := k1.cell 3
  simp only [List.getElem?_cons_zero, List.getElem?_cons_succ] at g2
  have z1 := k1.lt
  go_enter Try.func130, Try.ntmps130
  go_upto_region 2 with fail
  try simp only [World.size_alloc, hq, hq1, hq2, hq3]
  rw [HAD.out]
  go_upto_region 3 with fail
  go_loopw [13] (fun i wr => ∃ k : Nat, k ≤ fs.length ∧ i = .int .i64 k ∧ Below q w wr ∧ Blk wr q 24 [.int .i64 H, .slice A l.length c] ∧ Blk wr q1 95 [.int .i64 (M : Int), .int .i64 lo, .int .i64 hi, .slice B fs.length d] ∧ Blk wr q2 111 [.int .i64 0, .int .i64 0, .int .i64 0] ∧ Blk wr q3 111 [.int .i64 (usAll H M lo hi l (fs.take k)).1, .int .i64 (usAll H M lo hi l (fs.take k)).2.1, .int .i64 (usAll H M lo hi l (fs.take k)).2.2]) (fun i _ => fs.length - (intOf i).toNat)
  case atStart => exact ⟨0, Nat.zero_le _, rfl, hBd, k0, k1, k2, kd⟩
  case round =>
    clear g2 z1 k0 k1 k2 kd hBd HAD
    obtain ⟨k, hk, rfl, hB, hS, hT, hR, hU⟩ := hrel
    have hrr : Rd wr A (gs l) := hr.below hB (by omega)
    have hsr : Rd wr B (ints fs) := hs.below hB (by omega)
    have zT := hT.lt
    have zR := hR.lt
    by_cases hlt : k < fs.length
    · obtain ⟨b, off, rfl, hbl, z0⟩ := hsr.int_at hlt
      have hx := hf _ (List.getElem_mem hlt)
      have HU : Hid (usAll H M lo hi l (fs.take (k + 1)) = usStep H M lo hi l (usAll H M lo hi l (fs.take k)) fs[k]) := usAll_take hlt
      generalize fs[k] = x at z0 hx HU
      have HAX := hide (HAF.out x hx.1 hx.2)
      have hal := ansL_len H x M lo hi l
      have HST : Hid (usStep H M lo hi l (usAll H M lo hi l (fs.take k)) x = (if 0 ≤ iIdx 2 (ansL H x M lo hi l) then x else (usAll H M lo hi l (fs.take k)).1, if 0 ≤ iIdx 2 (ansL H x M lo hi l) then iIdx 2 (ansL H x M lo hi l) else (usAll H M lo hi l (fs.take k)).2.1, if 0 < mxQ (ansL H x M lo hi l) then x else (usAll H M lo hi l (fs.take k)).2.2)) := rfl
      have HU2 : Hid _ := HU.out.trans HST.out
      clear HU HST
      generalize usAll H M lo hi l (fs.take k) = s at hU HU2
      obtain ⟨s1, s2, s3⟩ := s
      generalize ansL H x M lo hi l = a at HAX hal HU2
      dsimp only at hU HU2
      have HIX := hide (fun W A c (h : Rd W A (ints a)) => indexI_c 2 a A c W h (by omega))
      have HMX := hide (fun W (h : Rd W A (ints a)) => h)
      clear HMX
      generalize iIdx 2 a = i at HIX HU2
      have HMX0 := fun g c W (h : Rd W (some ⟨g, 0, none⟩) (ints a)) => maxI_c a (some ⟨g, 0, none⟩) c W h (by omega) (by omega)
      generalize mxQ a = m at HMX0 HU2
      rw [hal] at HIX HMX0
      have HU : Hid (usAll H M lo hi l (fs.take (k + 1)) = (if 0 ≤ i then x else s1, if 0 ≤ i then i else s2, if 0 < m then x else s3)) := HU2.out
      clear HU2 hal
      have HS0 := hide hS
      have HM1 := hide HMX0
      clear HMX0
      obtain ⟨sk0, sk1⟩ : wr.cell? ⟨q, 0, none⟩ = some (.int .i64 H) ∧ wr.cell? ⟨q, 1, none⟩ = some (.slice A l.length c) := ⟨hS.cell 0, hS.cell 1⟩
      obtain ⟨tk0, tk1, tk2, tk3⟩ : wr.cell? ⟨q1, 0, none⟩ = some (.int .i64 (M : Int)) ∧ wr.cell? ⟨q1, 1, none⟩ = some (.int .i64 lo) ∧ wr.cell? ⟨q1, 2, none⟩ = some (.int .i64 hi) ∧ wr.cell? ⟨q1, 3, none⟩ = some (.slice (some ⟨b, off, none⟩) fs.length d) := ⟨hT.cell 0, hT.cell 1, hT.cell 2, hT.cell 3⟩
      have zS := hS.lt
      go_upto_region 7 with (first
        | (go_at_call 125; refine (HAX.out _ hrr).mono ?_; rintro e_ w5 ⟨⟨g, rfl, hA5, hg5⟩, hb5⟩)
        | (go_at_call 169; refine (HIX.out _ _ _ (hA5.rd (List.prefix_refl _))).mono ?_; rintro e_ w_ ⟨rfl, rfl⟩))
      have hB5 : Below q w w5 := hB.trans (hb5.mono (by omega))
      have hS5 := hS.bel hb5
      have hT5 := hT.bel hb5
      have hR5 := hR.bel hb5
      have hU5 := hU.bel hb5
      have hg3 : q3 < g := by have := hU.lt; omega
      have HMX := hide (HM1.out g M)
      clear HM1 HAX HIX HS0 sk0 sk1 tk0 tk1 tk2 tk3 hS hT hR hU hB hb5 hrr hsr
      by_cases h1 : 0 ≤ i
      ·
        obtain ⟨pu0, pu1, pu2⟩ : w5.cell? ⟨q3, 0, none⟩ = some (.int .i64 (s1)) ∧ w5.cell? ⟨q3, 1, none⟩ = some (.int .i64 (s2)) ∧ w5.cell? ⟨q3, 2, none⟩ = some (.int .i64 (s3)) := ⟨hU5.cell 0, hU5.cell 1, hU5.cell 2⟩
        obtain ⟨pf0, pf1, pf2⟩ : w5.frozen? ⟨q3, 0, none⟩ = false ∧ w5.frozen? ⟨q3, 1, none⟩ = false ∧ w5.frozen? ⟨q3, 2, none⟩ = false := ⟨hU5.frozen 0, hU5.frozen 1, hU5.frozen 2⟩
        have pz := hU5.lt
        go_upto_region 9 with fail
        obtain ⟨W6, hW6⟩ : ∃ W6, (w5.setCell ⟨q3, 0, none⟩ (.int .i64 x)).setCell ⟨q3, 1, none⟩ (.int .i64 i) = W6 := ⟨_, rfl⟩
        rw [hW6]
        have hB6 : Below q w W6 := by rw [← hW6]; exact (hB5.setCell (by show q ≤ q3; omega) _).setCell (by show q ≤ q3; omega) _
        have hS6 : Blk W6 q 24 [.int .i64 H, .slice A l.length c] := by rw [← hW6]; exact (hS5.far (by show q ≠ q3; omega) _).far (by show q ≠ q3; omega) _
        have hT6 : Blk W6 q1 95 [.int .i64 (M : Int), .int .i64 lo, .int .i64 hi, .slice (some ⟨b, off, none⟩) fs.length d] := by rw [← hW6]; exact (hT5.far (by show q1 ≠ q3; omega) _).far (by show q1 ≠ q3; omega) _
        have hR6 : Blk W6 q2 111 [.int .i64 0, .int .i64 0, .int .i64 0] := by rw [← hW6]; exact (hR5.far (by show q2 ≠ q3; omega) _).far (by show q2 ≠ q3; omega) _
        have hU6 : Blk W6 q3 111 [.int .i64 x, .int .i64 i, .int .i64 s3] := by rw [← hW6]; exact (hU5.set_ 0 _).set_ 1 _
        have hA6 : Blk W6 g 3 (ints a) := by rw [← hW6]; exact (hA5.far (by show g ≠ q3; omega) _).far (by show g ≠ q3; omega) _
        clear hW6 pu0 pu1 pu2 pf0 pf1 pf2 pz hB5 hS5 hT5 hR5 hU5 hA5
        have hrA6 : Rd W6 (some ⟨g, 0, none⟩) (ints a) := hA6.rd (List.prefix_refl _)
        obtain ⟨vu0, vu1, vu2⟩ : W6.cell? ⟨q3, 0, none⟩ = some (.int .i64 (x)) ∧ W6.cell? ⟨q3, 1, none⟩ = some (.int .i64 (i)) ∧ W6.cell? ⟨q3, 2, none⟩ = some (.int .i64 (s3)) := ⟨hU6.cell 0, hU6.cell 1, hU6.cell 2⟩
        obtain ⟨vf0, vf1, vf2⟩ : W6.frozen? ⟨q3, 0, none⟩ = false ∧ W6.frozen? ⟨q3, 1, none⟩ = false ∧ W6.frozen? ⟨q3, 2, none⟩ = false := ⟨hU6.frozen 0, hU6.frozen 1, hU6.frozen 2⟩
        have vz := hU6.lt
        by_cases h2 : 0 < m
        · have HU9 : Hid (usAll H M lo hi l (fs.take (k + 1)) = (x, i, x)) := by show _ = _; rw [HU.out]; simp only [if_pos h1, if_pos h2]
          clear HU
          go_wp2_with (go_at_call 170; refine (HMX.out _ hrA6).mono ?_; rintro e_ w_ ⟨rfl, rfl⟩)
          go_roundw
          case rel => exact ⟨k + 1, by omega, by go_num, hB6.setCell (by show q ≤ q3; omega) _, hS6.far (by show q ≠ q3; omega) _, hT6.far (by show q1 ≠ q3; omega) _, hR6.far (by show q2 ≠ q3; omega) _, by rw [HU9.out]; exact hU6.set_ 2 _⟩
          case measure => simp [intOf]; omega
        · have HU9 : Hid (usAll H M lo hi l (fs.take (k + 1)) = (x, i, s3)) := by show _ = _; rw [HU.out]; simp only [if_pos h1, if_neg h2]
          clear HU
          go_wp2_with (go_at_call 170; refine (HMX.out _ hrA6).mono ?_; rintro e_ w_ ⟨rfl, rfl⟩)
          go_roundw
          case rel => exact ⟨k + 1, by omega, by go_num, hB6, hS6, hT6, hR6, by rw [HU9.out]; exact hU6⟩
          case measure => simp [intOf]; omega
      · go_upto_region 9 with fail
        obtain ⟨W6, rfl⟩ : ∃ W6, W6 = w5 := ⟨_, rfl⟩
        have hB6 := hB5
        have hS6 := hS5
        have hT6 := hT5
        have hR6 := hR5
        have hU6 := hU5
        have hA6 := hA5
        clear hB5 hS5 hT5 hR5 hU5 hA5
        have hrA6 : Rd W6 (some ⟨g, 0, none⟩) (ints a) := hA6.rd (List.prefix_refl _)
        obtain ⟨vu0, vu1, vu2⟩ : W6.cell? ⟨q3, 0, none⟩ = some (.int .i64 (s1)) ∧ W6.cell? ⟨q3, 1, none⟩ = some (.int .i64 (s2)) ∧ W6.cell? ⟨q3, 2, none⟩ = some (.int .i64 (s3)) := ⟨hU6.cell 0, hU6.cell 1, hU6.cell 2⟩
        obtain ⟨vf0, vf1, vf2⟩ : W6.frozen? ⟨q3, 0, none⟩ = false ∧ W6.frozen? ⟨q3, 1, none⟩ = false ∧ W6.frozen? ⟨q3, 2, none⟩ = false := ⟨hU6.frozen 0, hU6.frozen 1, hU6.frozen 2⟩
        have vz := hU6.lt
        by_cases h2 : 0 < m
        · have HU9 : Hid (usAll H M lo hi l (fs.take (k + 1)) = (s1, s2, x)) := by show _ = _; rw [HU.out]; simp only [if_neg h1, if_pos h2]
          clear HU
          go_wp2_with (go_at_call 170; refine (HMX.out _ hrA6).mono ?_; rintro e_ w_ ⟨rfl, rfl⟩)
          go_roundw
          case rel => exact ⟨k + 1, by omega, by go_num, hB6.setCell (by show q ≤ q3; omega) _, hS6.far (by show q ≠ q3; omega) _, hT6.far (by show q1 ≠ q3; omega) _, hR6.far (by show q2 ≠ q3; omega) _, by rw [HU9.out]; exact hU6.set_ 2 _⟩
          case measure => simp [intOf]; omega
        · have HU9 : Hid (usAll H M lo hi l (fs.take (k + 1)) = (s1, s2, s3)) := by show _ = _; rw [HU.out]; simp only [if_neg h1, if_neg h2]
          clear HU
          go_wp2_with (go_at_call 170; refine (HMX.out _ hrA6).mono ?_; rintro e_ w_ ⟨rfl, rfl⟩)
          go_roundw
          case rel => exact ⟨k + 1, by omega, by go_num, hB6, hS6, hT6, hR6, by rw [HU9.out]; exact hU6⟩
          case measure => simp [intOf]; omega
    · obtain rfl : k = fs.length := by omega
      rw [List.take_length] at hU
      obtain ⟨s, hsz⟩ : ∃ s, usAll H M lo hi l fs = s := ⟨_, rfl⟩
      have HZ := hide hsz
      rw [hsz] at hU
      clear hsz
      obtain ⟨s1, s2, s3⟩ := s
      dsimp only at hU
      obtain ⟨pu0, pu1, pu2⟩ : wr.cell? ⟨q3, 0, none⟩ = some (.int .i64 (s1)) ∧ wr.cell? ⟨q3, 1, none⟩ = some (.int .i64 (s2)) ∧ wr.cell? ⟨q3, 2, none⟩ = some (.int .i64 (s3)) := ⟨hU.cell 0, hU.cell 1, hU.cell 2⟩
      obtain ⟨pf0, pf1, pf2⟩ : wr.frozen? ⟨q3, 0, none⟩ = false ∧ wr.frozen? ⟨q3, 1, none⟩ = false ∧ wr.frozen? ⟨q3, 2, none⟩ = false := ⟨hU.frozen 0, hU.frozen 1, hU.frozen 2⟩
      have pz := hU.lt
      obtain ⟨x0, x1, x2⟩ : wr.cell? ⟨q2, 0, none⟩ = some (.int .i64 0) ∧ wr.cell? ⟨q2, 1, none⟩ = some (.int .i64 0) ∧ wr.cell? ⟨q2, 2, none⟩ = some (.int .i64 0) := ⟨hR.cell 0, hR.cell 1, hR.cell 2⟩
      obtain ⟨y0, y1, y2⟩ : wr.frozen? ⟨q2, 0, none⟩ = false ∧ wr.frozen? ⟨q2, 1, none⟩ = false ∧ wr.frozen? ⟨q2, 2, none⟩ = false := ⟨hR.frozen 0, hR.frozen 1, hR.frozen 2⟩
      go_wp2
      obtain ⟨WE, hWE⟩ : ∃ WE, ((wr.setCell ⟨q2, 0, none⟩ (.int .i64 s1)).setCell ⟨q2, 1, none⟩ (.int .i64 s2)).setCell ⟨q2, 2, none⟩ (.int .i64 s3) = WE := ⟨_, rfl⟩
      rw [hWE]
      have hE : Blk WE q2 111 [.int .i64 s1, .int .i64 s2, .int .i64 s3] := by rw [← hWE]; exact ((hR.set_ 0 _).set_ 1 _).set_ 2 _
      have hqq : q ≤ q2 := by omega
      have hBE : Below q w WE := by rw [← hWE]; exact ((hB.setCell hqq _).setCell hqq _).setCell hqq _
      clear hWE
      have g0 := hE.cell 0; have g1 := hE.cell 1; have g2 := hE.cell 2; simp only [List.getElem?_cons_zero, List.getElem?_cons_succ] at g0 g1 g2
      exact bodyPost_ret (v := .agg #[.int .i64 s1, .int .i64 s2, .int .i64 s3]) (by simp [results, Try.results130, go_sem, g0, g1, g2]; try rfl) rfl ⟨by rw [HZ.out], by first | exact hBE | (rw [hq]; exact hBE)⟩
end Go.Proofs.Ytkcjiejdjdcbeaa
