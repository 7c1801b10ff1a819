/- The law CodeStairs: the call returns true, and nothing that was there turns. Condition: the laid table. -/
import Derived.Test.YtmedjedmeggbpaaDoorR7
import Derived.Test.YtmedjedmeggbpaaDoorMathB
import Derived.Test.YtmedjedmeggbpaaDoorL05
import Derived.Test.YtmedjedmeggbpaaDoorR4
namespace Go.Proofs.YtmedjedmeggbpaaDoor
open Go.RowKit
set_option maxRecDepth 100000


theorem stairs_1 (s n d tick : Int) (w : World) (hT : Tab w) (he : chirpE s n d = 2) :
    Calls Tryd.prog 8 #[.agg #[.int .i64 s, .int .i64 n, .int .i64 d], .int .i64 tick] w fun r w' => r = .returned (.bool true) ∧ Below w.heap.size w w' := by
  have HE := hide (refChirpErr_c s n d)
  rw [he] at HE
  clear he
  go_enter Tryd.func8, Tryd.ntmps8
  go_wp2_with (first
    | (go_at_call 15; refine (awake_c _ (hT.bel (alloc_bel _ _))).mono ?_; rintro e w1 ⟨rfl, hb1⟩; have hW1 : Below w.heap.size w w1 := tr (alloc_bel _ _) hb1 (by simp); have hX1 := (Blk.new w 64 [.int .i64 s, .int .i64 n, .int .i64 d]).bel hb1; have c0 := hX1.cell 0; have c1 := hX1.cell 1; have c2 := hX1.cell 2; simp only [List.getElem?_cons_zero, List.getElem?_cons_succ] at c0 c1 c2)
    | (go_at_call 47; refine (HE.out _).mono ?_; rintro e w2 ⟨rfl, hb2⟩; have hW2 := tr hW1 hb2 hW1.size; have hX2 := hX1.bel hb2; have c0 := hX2.cell 0; have c1 := hX2.cell 1; have c2 := hX2.cell 2; simp only [List.getElem?_cons_zero, List.getElem?_cons_succ] at c0 c1 c2)
    )
  go_ret
  exact ⟨rfl, hW2⟩

theorem stairs_2 (s n d tick : Int) (w : World) (hT : Tab w) (he : chirpE s n d = 0) (ht : outB tick 0 1000000 = true) :
    Calls Tryd.prog 8 #[.agg #[.int .i64 s, .int .i64 n, .int .i64 d], .int .i64 tick] w fun r w' => r = .returned (.bool true) ∧ Below w.heap.size w w' := by
  have HE := hide (refChirpErr_c s n d)
  rw [he] at HE
  clear he
  go_enter Tryd.func8, Tryd.ntmps8
  go_wp2_with (first
    | (go_at_call 15; refine (awake_c _ (hT.bel (alloc_bel _ _))).mono ?_; rintro e w1 ⟨rfl, hb1⟩; have hW1 : Below w.heap.size w w1 := tr (alloc_bel _ _) hb1 (by simp); have hX1 := (Blk.new w 64 [.int .i64 s, .int .i64 n, .int .i64 d]).bel hb1; have c0 := hX1.cell 0; have c1 := hX1.cell 1; have c2 := hX1.cell 2; simp only [List.getElem?_cons_zero, List.getElem?_cons_succ] at c0 c1 c2)
    | (go_at_call 47; refine (HE.out _).mono ?_; rintro e w2 ⟨rfl, hb2⟩; have hW2 := tr hW1 hb2 hW1.size; have hX2 := hX1.bel hb2; have c0 := hX2.cell 0; have c1 := hX2.cell 1; have c2 := hX2.cell 2; simp only [List.getElem?_cons_zero, List.getElem?_cons_succ] at c0 c1 c2)
    | (go_at_call 26; refine (within_c _ _ _ _).mono ?_; rintro e_ w_ ⟨rfl, rfl⟩)
    )
  go_ret
  exact ⟨rfl, hW2⟩

theorem risesL_lt (s n d : Int) (k : Nat) : (risesL s n d (k + 1)).length ≤ k := by
  induction k with
  | zero => simp [risesL]
  | succ k ih =>
    rw [risesL]
    split
    · simp; omega
    · omega
theorem risesL_mem (s n d : Int) (k : Nat) : ∀ x ∈ risesL s n d k, 0 ≤ x ∧ x ≤ k := by
  induction k with
  | zero => simp [risesL]
  | succ k ih =>
    intro x hx
    rw [risesL] at hx
    split at hx
    · rcases List.mem_append.1 hx with h | h
      · have := ih x h; omega
      · simp at h; omega
    · have := ih x hx; omega

theorem waveL_zero (s n d : Int) (h : 0 < (waveL s n d 32).length) : (waveL s n d 32)[0] = (1, 0) := by simp [waveL, phaseN]; rfl
theorem waveL_at (s n d : Int) (k : Nat) (h : k < (waveL s n d 32).length) : (waveL s n d 32)[k] = turnG (phaseN s n d k) := by simp [waveL]
theorem Rd.g_in {w : World} {b off : Nat} {l : List (Int × Int)} (h : Rd w (some ⟨b, off, none⟩) (gs l)) {k : Nat} (hk : k < l.length) :
    b < w.heap.size ∧ w.cell? ⟨b, off + k * 2, none⟩ = some (.int .i64 l[k].1) ∧ w.cell? ⟨b, off + k * 2 + 1, none⟩ = some (.int .i64 l[k].2) := by
  obtain ⟨b', off', e, h1, h2, h3⟩ := h.g_at hk
  cases e
  exact ⟨h1, h2, h3⟩
theorem Rd.int_in {w : World} {b off : Nat} {l : List Int} (h : Rd w (some ⟨b, off, none⟩) (ints l)) {k : Nat} (hk : k < l.length) : b < w.heap.size ∧ w.cell? ⟨b, off + k, none⟩ = some (.int .i64 l[k]) := by
  obtain ⟨b', off', e, h1, h2⟩ := h.int_at hk
  cases e
  exact ⟨h1, h2⟩

/-- Neighbouring numbers have distances that differ by at most one, if n is at most d. -/
def EvenL (n d : Int) (L : List Int) : Prop := n ≤ d → ∀ (i j : Nat) (hi : i + 1 < L.length) (hj : j + 1 < L.length), -1 ≤ L[i + 1] - L[i] - (L[j + 1] - L[j]) ∧ L[i + 1] - L[i] - (L[j + 1] - L[j]) ≤ 1

set_option maxHeartbeats 4000000 in
theorem stairs_3 (s n d tick : Int) (w : World) (hT : Tab w) (he : chirpE s n d = 0) (ht : outB tick 0 1000000 = false) :
    Calls Tryd.prog 8 #[.agg #[.int .i64 s, .int .i64 n, .int .i64 d], .int .i64 tick] w fun r w' => r = .returned (.bool true) ∧ Below w.heap.size w w' := by
  have hq := outB_false.1 ht
  obtain ⟨q1, q2, q3, q4, q5, q6⟩ := chirpE_zero he
  have HE := hide (refChirpErr_c s n d)
  have HA := hide (chirpAt_yes (chirpNE_in he ht))
  have HAk := hide (fun (k : Nat) (hk : k ≤ 40) => chirpAt_yes (t := (k : Int)) (chirpNE_in he (outB_false.2 ⟨by omega, by omega⟩)))
  have HR := hide (risesOf_yes (t := 64) (chirpNE_in he (by decide)))
  have HW := hide (wave_yes (t := 32) (chirpNE_in he (by decide)))
  rw [show (64 : Int).toNat = 63 + 1 from rfl] at HR
  rw [show (32 : Int).toNat = 32 from rfl, waveL_length] at HW
  -- the first tick
  have hfl := freq_line (s := s) (n := n) (d := d) (t := tick) q5
  have hfb := freq_bd (t := tick) he hq.1 hq.2
  have hp : tick * n ≤ 1000000 * 1000 := Int.mul_le_mul hq.2 q4 q3 (by omega)
  have hp0 : 0 ≤ tick * n := Int.mul_nonneg hq.1 q3
  have hfs : s ≤ freq s n d tick ∧ freq s n d tick ≤ s + tick * n := by
    have h1 : 0 ≤ tick * n / d := Int.ediv_nonneg hp0 (by omega)
    have h2 : tick * n / d ≤ tick * n := Int.ediv_le_self _ hp0
    unfold freq; omega
  have ho1 : outB (freq s n d tick) s (s + tick * n) = false := outB_false.2 hfs
  have ho2 : outB (tick * n - (freq s n d tick - s) * d) 0 (d - 1) = false := outB_false.2 ⟨hfl.1, by omega⟩
  have hm1 : 0 ≤ (freq s n d tick - s) * d ∧ (freq s n d tick - s) * d ≤ 1000000000 := by
    have := Int.mul_nonneg (show 0 ≤ freq s n d tick - s by omega) (show 0 ≤ d by omega)
    omega
  rw [he] at HE
  have HC := hide he
  have hF0 : Hid (EvenL n d (risesL s n d (63 + 1))) := fun h i j hi hj => risesL_even s n d q3 q5 h 63 hi hj
  have hLlt := risesL_lt s n d 63
  have hLm := hide (risesL_mem s n d (63 + 1))
  clear he hfl
  generalize risesL s n d (63 + 1) = L at HR hF0 hLlt hLm
  generalize freq s n d tick = f0 at HA ho1 ho2 hm1 hfs hfb
  go_enter Tryd.func8, Tryd.ntmps8
  go_wp2_with (first
    | (go_at_call 15; refine (awake_c _ (hT.bel (alloc_bel _ _))).mono ?_; rintro e w1 ⟨rfl, hb1⟩; have hW1 : Below w.heap.size w w1 := tr (alloc_bel _ _) hb1 (by simp); have hX1 := (Blk.new w 64 [.int .i64 s, .int .i64 n, .int .i64 d]).bel hb1; have c0 := hX1.cell 0; have c1 := hX1.cell 1; have c2 := hX1.cell 2; simp only [List.getElem?_cons_zero, List.getElem?_cons_succ] at c0 c1 c2)
    | (go_at_call 47; refine (HE.out _).mono ?_; rintro e w2 ⟨rfl, hb2⟩; have hW2 := tr hW1 hb2 hW1.size; have hX2 := hX1.bel hb2; have c0 := hX2.cell 0; have c1 := hX2.cell 1; have c2 := hX2.cell 2; simp only [List.getElem?_cons_zero, List.getElem?_cons_succ] at c0 c1 c2)
    | (go_at_call 26; refine (within_c _ _ _ _).mono ?_; rintro e_ w_ ⟨rfl, rfl⟩)
    | (go_at_call 44; refine (HA.out _).mono ?_; rintro e w3 ⟨rfl, hb3⟩; have hW3 := tr hW2 hb3 hW2.size; have hX3 := hX2.bel hb3; have c0 := hX3.cell 0; have c1 := hX3.cell 1; have c2 := hX3.cell 2; simp only [List.getElem?_cons_zero, List.getElem?_cons_succ] at c0 c1 c2)
    | (go_at_call 45; refine (HR.out _).mono ?_; rintro e w4 ⟨⟨A4, a4, rfl, hr4⟩, hb4⟩; have hW4 := tr hW3 hb4 hW3.size; have hX4 := hX3.bel hb4; have c0 := hX4.cell 0; have c1 := hX4.cell 1; have c2 := hX4.cell 2; simp only [List.getElem?_cons_zero, List.getElem?_cons_succ] at c0 c1 c2)
    | (go_at_call 46; refine (HW.out _ (hT.bel hW4)).mono ?_; rintro e w5 ⟨⟨A5, a5, rfl, hr5⟩, hb5⟩; have hW5 := tr hW4 hb5 hW4.size; have hX5 := hX4.bel hb5; have c0 := hX5.cell 0; have c1 := hX5.cell 1; have c2 := hX5.cell 2; simp only [List.getElem?_cons_zero, List.getElem?_cons_succ] at c0 c1 c2; obtain ⟨b5, o5, rfl, hl5, z0, z1⟩ := hr5.1.g_at (k := 0) (by rw [waveL_length]; omega); rw [waveL_zero] at z0 z1; simp only [Nat.zero_mul, Nat.add_zero] at z0 z1)
    )
  have hr45 := hr4.bel hb5
  have hzp := hX5.lt
  clear hX1 hX2 hX3 hX4 hb1 hb2 hb3 hb4 hb5 hW1 hW2 hW3 hW4 hr4 HE HA HR HW ho1 ho2 hm1 hfs hfb hp hp0
  go_loopw [12] (fun t wr => ∃ k : Nat, 1 ≤ k ∧ k ≤ 32 ∧ t = .int .i64 k ∧ Below w5.heap.size w5 wr) (fun t _ => 32 - (intOf t).toNat)
  case atStart => exact ⟨1, by omega, by omega, rfl, Below.refl _ _⟩
  case round =>
    obtain ⟨k, hk1, hk, rfl, hbr⟩ := hrel
    have hXr := hX5.bel hbr
    have hr5r := hr5.bel hbr
    have hr4r := hr45.bel hbr
    have hWr := tr hW5 hbr hW5.size
    have hzr := hbr.size
    by_cases hlt : k < 32
    · obtain ⟨j, rfl⟩ : ∃ j : Nat, k = j + 1 := ⟨k - 1, by omega⟩
      have hwl : j + 1 < (waveL s n d 32).length := by rw [waveL_length]; omega
      obtain ⟨hl5', x0, x1⟩ := hr5r.1.g_in hwl
      obtain ⟨_, y0, y1⟩ := hr5r.1.g_in (show j < (waveL s n d 32).length by omega)
      rw [waveL_at] at x0 x1 y0 y1
      obtain ⟨fb1, fb2⟩ := freq_bd (t := (j : Int)) HC.out (by omega) (by omega)
      have HAj := hide (HAk.out j (by omega))
      have HTj := hide (fun W => refTurn_c (freq s n d j) W (by omega) (by omega))
      have hfj : s ≤ freq s n d j ∧ freq s n d j ≤ 100000 + ((j : Int) + 1) * n := by
        have h0 : 0 ≤ (j : Int) * n := Int.mul_nonneg (by omega) q3
        have h1 : 0 ≤ (j : Int) * n / d := Int.ediv_nonneg h0 (by omega)
        have h2 : (j : Int) * n / d ≤ (j : Int) * n := Int.ediv_le_self _ h0
        have h3 : ((j : Int) + 1) * n = (j : Int) * n + n := by rw [Int.add_mul, Int.one_mul]
        unfold freq; omega
      have hoj : outB (freq s n d j) s (100000 + ((j : Int) + 1) * n) = false := outB_false.2 hfj
      have hjn : 0 ≤ ((j : Int) + 1) * n ∧ ((j : Int) + 1) * n ≤ 32000 := by
        have h1 := Int.mul_nonneg (show 0 ≤ (j : Int) + 1 by omega) q3
        have h2 := Int.mul_le_mul (show (j : Int) + 1 ≤ 32 by omega) q4 q3 (by omega)
        omega
      have hmt : ∀ m, m < 4 → Mid (turnG m) := fun m hm => by
        have e : m = 0 ∨ m = 1 ∨ m = 2 ∨ m = 3 := by omega
        rcases e with rfl | rfl | rfl | rfl <;> (unfold Mid; decide)
      have hp1 := phaseN_lt s n d j
      have hf4 : (freq s n d j % 4).toNat < 4 := by omega
      have hg : gmul (turnG (phaseN s n d j)) (turnG (freq s n d j % 4).toNat) = turnG (phaseN s n d (j + 1)) := by
        have h1 := turnG_mul _ _ hp1 hf4
        unfold gmul
        rw [h1, phaseN]
        congr 1
        omega
      have HG := hide (fun W => gmul_c (turnG (phaseN s n d j)) (turnG (freq s n d j % 4).toNat) W (hmt _ hp1) (hmt _ hf4))
      rw [hg] at HG
      clear hg hmt hfj hwl hf4 hp1
      generalize turnG (phaseN s n d (j + 1)) = tk at x0 x1 HG
      generalize turnG (phaseN s n d j) = tj at y0 y1 HG
      generalize turnG (freq s n d j % 4).toNat = tf at HTj HG
      obtain ⟨ka, kb⟩ := tk
      obtain ⟨ja, jb⟩ := tj
      dsimp only at x0 x1 y0 y1 HG
      generalize freq s n d (j : Int) = fj at HAj HTj hoj fb1 fb2
      have c0 := hXr.cell 0; have c1 := hXr.cell 1; have c2 := hXr.cell 2; simp only [List.getElem?_cons_zero, List.getElem?_cons_succ] at c0 c1 c2
      go_upto_region 19 with (first
        | (go_at_call 44; refine (HAj.out _).mono ?_; rintro e w6 ⟨rfl, hb6⟩))
      have hX6 := hXr.bel hb6
      have d0 := hX6.cell 0; have d1 := hX6.cell 1; have d2 := hX6.cell 2; simp only [List.getElem?_cons_zero, List.getElem?_cons_succ] at d0 d1 d2
      have HS := hide (show w6.cell? ⟨w.heap.size, 0, none⟩ = some (.int .i64 s) ∧ w6.cell? ⟨w.heap.size, 1, none⟩ = some (.int .i64 n) ∧ w6.cell? ⟨b5, o5 + (j + 1) * 2, none⟩ = some (.int .i64 ka) ∧ w6.cell? ⟨b5, o5 + (j + 1) * 2 + 1, none⟩ = some (.int .i64 kb) ∧ w6.cell? ⟨b5, o5 + j * 2, none⟩ = some (.int .i64 ja) ∧ w6.cell? ⟨b5, o5 + j * 2 + 1, none⟩ = some (.int .i64 jb) ∧ Below w6.heap.size w6 w6
        from ⟨d0, d1, (hb6.cell (p := ⟨b5, _, none⟩) hl5').trans x0, (hb6.cell (p := ⟨b5, _, none⟩) hl5').trans x1, (hb6.cell (p := ⟨b5, _, none⟩) hl5').trans y0, (hb6.cell (p := ⟨b5, _, none⟩) hl5').trans y1, Below.refl _ _⟩)
      clear d0 d1 d2 c0 c1 c2 x0 x1 y0 y1 z0 z1
      have i0 : (0 : Int) ≤ (j : Int) + 1 := by omega
      have i1 : (j : Int) + 1 < 32 := by omega
      have i2 : ((j : Int) + 1).toNat = j + 1 := by omega
      have i3 : (0 : Int) ≤ (j : Int) := by omega
      have i4 : (j : Int) < 32 := by omega
      have u1 : IntKind.i64.wrap ((j : Int) + 1 - 1) = (j : Int) := by rw [Int.add_sub_cancel]; simp (disch := omega) only [IntWalk.i64_in]
      have u2 : IntKind.i64.wrap (j : Int) = (j : Int) := by simp (disch := omega) only [IntWalk.i64_in]
      have u3 : IntKind.i64.wrap (((j : Int) + 1) * n) = ((j : Int) + 1) * n := by simp (disch := omega) only [IntWalk.i64_in]
      have u4 : IntKind.i64.wrap (100000 + ((j : Int) + 1) * n) = 100000 + ((j : Int) + 1) * n := by simp (disch := omega) only [IntWalk.i64_in]
      go_region_held3 (fun w' => w'.cell? ⟨w.heap.size, 0, none⟩ = some (.int .i64 s) ∧ w'.cell? ⟨w.heap.size, 1, none⟩ = some (.int .i64 n) ∧ w'.cell? ⟨b5, o5 + (j + 1) * 2, none⟩ = some (.int .i64 ka) ∧ w'.cell? ⟨b5, o5 + (j + 1) * 2 + 1, none⟩ = some (.int .i64 kb) ∧ w'.cell? ⟨b5, o5 + j * 2, none⟩ = some (.int .i64 ja) ∧ w'.cell? ⟨b5, o5 + j * 2 + 1, none⟩ = some (.int .i64 jb) ∧ Below w6.heap.size w6 w')
        (first | with_reducible exact hd6_drew HS.out | with_reducible exact H7.out | with_reducible exact H8.out)
        (first
          | (go_at_call 26; refine (within_c _ _ _ _).mono ?_; rintro e_ w_ ⟨rfl, rfl⟩; rw [hoj])
          | (go_at_call 53; refine (HTj.out _).mono ?_; rintro e w7 ⟨rfl, hb7⟩; have H7 := hide (hd6_bel (hd6_drew HS.out) hb7 (by simp)))
          | (go_at_call 52; refine (HG.out _).mono ?_; rintro e w8 ⟨rfl, hb8⟩; have H8 := hide (hd6_bel H7.out hb8 H7.out.2.2.2.2.2.2.size)))
      go_wp2
      go_roundw
      case rel => exact ⟨j + 1 + 1, by omega, by omega, by go_num, tr (tr hbr hb6 hbr.size) H8.out.2.2.2.2.2.2 (by have := hb6.size; omega)⟩
      case measure => simp [intOf]; omega
    · clear z0 z1
      have c0 := hXr.cell 0; have c1 := hXr.cell 1; have c2 := hXr.cell 2; simp only [List.getElem?_cons_zero, List.getElem?_cons_succ] at c0 c1 c2
      by_cases hnd : d < n
      · go_wp2
        go_ret
        exact ⟨rfl, hWr⟩
      · have hle : n ≤ d := by omega
        have HEV := hide (hF0.out hle)
        go_wp2
        clear c0 c1 c2 hF0
        obtain ⟨wo, rfl⟩ : ∃ wo : World, wo = wr := ⟨_, rfl⟩
        go_loopw [13] (fun t wq => ∃ i : Nat, 2 ≤ i ∧ i ≤ max L.length 2 ∧ t = .int .i64 i ∧ Below wo.heap.size wo wq) (fun t _ => L.length - (intOf t).toNat)
        case atStart => exact ⟨2, by omega, by omega, rfl, Below.refl _ _⟩
        case round =>
          obtain ⟨i, hi2, hi, rfl, hbq⟩ := hrel
          by_cases hil : i < L.length
          · go_wp2
            obtain ⟨wu, rfl⟩ : ∃ wu : World, wu = wr := ⟨_, rfl⟩
            go_loopw [14] (fun t wq => ∃ k : Nat, 1 ≤ k ∧ k ≤ i ∧ t = .int .i64 k ∧ Below wu.heap.size wu wq) (fun t _ => i - (intOf t).toNat)
            case atStart => exact ⟨1, by omega, by omega, rfl, Below.refl _ _⟩
            case round =>
              obtain ⟨k, hk1, hki, rfl, hbu⟩ := hrel
              by_cases hkl : k < i
              · obtain ⟨a, rfl⟩ : ∃ a : Nat, i = a + 1 := ⟨i - 1, by omega⟩
                obtain ⟨b, rfl⟩ : ∃ b : Nat, k = b + 1 := ⟨k - 1, by omega⟩
                have hrd := ((hr4r.bel hbq).bel hbu).1
                obtain ⟨bl, ol, rfl, _, x1⟩ := hrd.int_at hil
                obtain ⟨_, x0⟩ := hrd.int_in (show a < L.length by omega)
                obtain ⟨_, y1⟩ := hrd.int_in (show b + 1 < L.length by omega)
                obtain ⟨_, y0⟩ := hrd.int_in (show b < L.length by omega)
                have hev := HEV.out a b hil (by omega)
                have m1 := hLm.out _ (List.getElem_mem hil)
                have m2 := hLm.out _ (List.getElem_mem (show a < L.length by omega))
                have m3 := hLm.out _ (List.getElem_mem (show b + 1 < L.length by omega))
                have m4 := hLm.out _ (List.getElem_mem (show b < L.length by omega))
                generalize L[a + 1] = p1 at x1 hev m1
                generalize L[a] = p0 at x0 hev m2
                generalize L[b + 1] = q1' at y1 hev m3
                generalize L[b] = q0' at y0 hev m4
                have ho := outB_false.2 hev
                have i0 : (0 : Int) ≤ (a : Int) + 1 := by omega
                have i1 : (a : Int) + 1 < (L.length : Int) := by omega
                have i2 : ((a : Int) + 1).toNat = a + 1 := by omega
                have i3 : (0 : Int) ≤ (a : Int) := by omega
                have i4 : (a : Int) < (L.length : Int) := by omega
                have j0 : (0 : Int) ≤ (b : Int) + 1 := by omega
                have j1 : (b : Int) + 1 < (L.length : Int) := by omega
                have j2 : ((b : Int) + 1).toNat = b + 1 := by omega
                have j3 : (0 : Int) ≤ (b : Int) := by omega
                have j4 : (b : Int) < (L.length : Int) := by omega
                have u1 : IntKind.i64.wrap ((a : Int) + 1 - 1) = (a : Int) := by rw [Int.add_sub_cancel]; simp (disch := omega) only [IntWalk.i64_in]
                have u2 : IntKind.i64.wrap ((b : Int) + 1 - 1) = (b : Int) := by rw [Int.add_sub_cancel]; simp (disch := omega) only [IntWalk.i64_in]
                have u3 : IntKind.i64.wrap (p1 - p0) = p1 - p0 := by simp (disch := omega) only [IntWalk.i64_in]
                have u4 : IntKind.i64.wrap (q1' - q0') = q1' - q0' := by simp (disch := omega) only [IntWalk.i64_in]
                have u5 : IntKind.i64.wrap (p1 - p0 - (q1' - q0')) = p1 - p0 - (q1' - q0') := by simp (disch := omega) only [IntWalk.i64_in]
                go_wp2
                go_quiet ((go_at_call 26; exact quiet_eq (within_c _ _ _ _)))
                rw [ho]
                go_wp2
                go_roundw
                case rel => exact ⟨b + 1 + 1, by omega, by omega, by go_num, below_drewN hbu _⟩
                case measure => simp [intOf]; omega
              · go_wp2
                go_roundw
                case rel => exact ⟨i + 1, by omega, by omega, by go_num, tr hbq hbu hbq.size⟩
                case measure => simp [intOf]; omega
          · go_wp2
            go_ret
            exact ⟨rfl, tr hWr hbq hWr.size⟩

theorem stairs_c (s n d tick : Int) (w : World) (hT : Tab w) :
    Calls Tryd.prog 8 #[.agg #[.int .i64 s, .int .i64 n, .int .i64 d], .int .i64 tick] w fun r w' => r = .returned (.bool true) ∧ Below w.heap.size w w' := by
  rcases chirpE_cases s n d with he | he
  · cases ht : outB tick 0 1000000
    · exact stairs_3 s n d tick w hT he ht
    · exact stairs_2 s n d tick w hT he ht
  · exact stairs_1 s n d tick w hT he
end Go.Proofs.YtmedjedmeggbpaaDoor
