/- Contracts: a block without harmonics. -/
import Derived.Test.YtnigmdkhecblnaaDoorQ2
set_option linter.unusedSimpArgs false
set_option linter.unusedVariables false
namespace Go.Proofs.YtnigmdkhecblnaaDoor
open Go.RowKit
set_option maxRecDepth 100000
attribute [local go_sem] run_store_complex


def gsubI (a b : Int × Int) : Int × Int := (a.1 - b.1, a.2 - b.2)
/-- Four times a number of a block, less the first harmonics of a list. -/
def restN (L : List (Int × Int)) (lines : List Int) (q : Nat) : Nat → Int × Int
  | 0 => (4 * (L.getD q (0, 0)).1, 4 * (L.getD q (0, 0)).2)
  | k + 1 => gsubI (restN L lines q k) (gmul (harmN L (lines.getD k 0) 4) (turnG ((lines.getD k 0 * q) % 4).toNat))

theorem gle_rest {L : List (Int × Int)} (h : ∀ q, gle 2000000 (L.getD q (0, 0))) (lines : List Int) (q : Nat) : ∀ k : Nat, gle (((k : Int) + 1) * 8000000) (restN L lines q k)
  | 0 => by
    obtain ⟨h1, h2, h3, h4⟩ := h q
    simp only [gle, restN]
    omega
  | k + 1 => by
    have hk : (lines.getD k 0 * (q : Int) % 4).toNat < 4 := by omega
    obtain ⟨h1, h2, h3, h4⟩ := gle_rest h lines q k
    obtain ⟨e1, e2, e3, e4⟩ := gle_mulTurn (gle_harm h (lines.getD k 0) 4) hk
    simp only [gle, restN, gsubI]
    omega

theorem FI.four : FI 4616189618054758400 4 := FI.ofInt 4 (by decide)

theorem CI.four {v : Value} {g : Int × Int} (hv : CI v g) (hg : gle 2000000 g) :
    ∃ r, (∀ P W t, Sem.run P (Go.binOp .mul t (.complex .f64 4616189618054758400 0) v) W = .ok r W) ∧ CI r (4 * g.1, 4 * g.2) := by
  obtain ⟨a, b⟩ := g
  obtain ⟨x, y, rfl, hx, hy⟩ := hv
  obtain ⟨g1, g2, g3, g4⟩ := hg
  dsimp only at g1 g2 g3 g4 hx hy
  obtain ⟨r1, m1, f1⟩ := FI.four.mul hx (by omega)
  obtain ⟨r2, m2, f2⟩ := FI.zero.mul hy (by omega)
  obtain ⟨r3, m3, f3⟩ := f1.sub f2 (by omega)
  obtain ⟨r4, m4, f4⟩ := FI.four.mul hy (by omega)
  obtain ⟨r5, m5, f5⟩ := FI.zero.mul hx (by omega)
  obtain ⟨r6, m6, f6⟩ := f4.add f5 (by omega)
  refine ⟨.complex .f64 r3 r6, fun P W t' => run_complex_mul W t' _ _ _ _ _ _ ?_, _, _, rfl, ?_, ?_⟩
  · simp [cMulBits, m1, m2, m3, m4, m5, m6]
  · rwa [show 4 * a - 0 * b = 4 * a by omega] at f3
  · rwa [show 4 * b + 0 * a = 4 * b by omega] at f6

theorem CI.subI {v u : Value} {g h : Int × Int} {M N : Int} (hv : CI v g) (hu : CI u h) (hg : gle M g) (hh : gle N h) (hM : M + N ≤ 4503599627370496) :
    ∃ r, (∀ P W t, Sem.run P (Go.binOp .sub t v u) W = .ok r W) ∧ CI r (gsubI g h) := by
  obtain ⟨x, y, rfl, hx, hy⟩ := hv
  obtain ⟨z, t, rfl, hz, ht⟩ := hu
  obtain ⟨g1, g2, g3, g4⟩ := hg
  obtain ⟨h1, h2, h3, h4⟩ := hh
  obtain ⟨r1, m1, f1⟩ := hx.sub hz (by omega)
  obtain ⟨r2, m2, f2⟩ := hy.sub ht (by omega)
  exact ⟨.complex .f64 r1 r2, fun P W t' => run_complex_sum W .sub (.inr rfl) t' .f64 _ _ _ _ _ _ (by simp [cSumBits, m1, m2]), _, _, rfl, f1, f2⟩

/-- A number of a block in which the first i numbers have one harmonic more taken away. -/
def restM (L : List (Int × Int)) (lines : List Int) (k i q : Nat) : Int × Int := if q < i then restN L lines q (k + 1) else restN L lines q k

set_option maxHeartbeats 2000000 in
theorem without_c (v0 v1 v2 v3 : Value) (g0 g1 g2 g3 : Int × Int) (lines : List Int) (B : Option Addr) (cB : Nat) (w : World) (hT : Tab w) (h0 : CI v0 g0) (h1 : CI v1 g1) (h2 : CI v2 g2) (h3 : CI v3 g3)
    (m0 : gle 2000000 g0) (m1 : gle 2000000 g1) (m2 : gle 2000000 g2) (m3 : gle 2000000 g3) (hr : Rd w B (ints lines)) (hl : lines.length ≤ 4) (hn : ∀ n ∈ lines, 0 ≤ n ∧ n ≤ 3) :
    Calls Tryd.prog 43 #[.agg #[v0, v1, v2, v3], .slice B lines.length cB] w fun r w' => (∃ us : List Value, us.length = 4 ∧ r = .returned (.agg us.toArray) ∧ ∀ q, q < 4 → ∃ v, us[q]? = some v ∧ CI v (restN [g0, g1, g2, g3] lines q lines.length)) ∧ Below w.heap.size w w' := by
  have HC : Hid (∀ k : Nat, k < 4 → ∃ v r, (∀ W, Sem.run Tryd.prog (Instr.index 92 (.agg #[v0, v1, v2, v3]) (.int .i64 (k : Int))) W = .ok v W) ∧ (∀ P W t, Sem.run P (Go.binOp .mul t (.complex .f64 4616189618054758400 0) v) W = .ok r W) ∧ CI r (restN [g0, g1, g2, g3] lines k 0)) := by
    intro k hk
    have e : k = 0 ∨ k = 1 ∨ k = 2 ∨ k = 3 := by omega
    rcases e with rfl | rfl | rfl | rfl
    · obtain ⟨r, a, b⟩ := h0.four m0
      exact ⟨v0, r, fun W => by simp [Instr.index, go_sem], a, b⟩
    · obtain ⟨r, a, b⟩ := h1.four m1
      exact ⟨v1, r, fun W => by simp [Instr.index, go_sem], a, b⟩
    · obtain ⟨r, a, b⟩ := h2.four m2
      exact ⟨v2, r, fun W => by simp [Instr.index, go_sem], a, b⟩
    · obtain ⟨r, a, b⟩ := h3.four m3
      exact ⟨v3, r, fun W => by simp [Instr.index, go_sem], a, b⟩
  have HH := hide (fun (n : Int) (a : -1000 ≤ n) (b : n ≤ 1000) (W : World) (hT : Tab W) => harmonic_c v0 v1 v2 v3 g0 g1 g2 g3 n 2000000 W hT h0 h1 h2 h3 m0 m1 m2 m3 (by omega) (by omega) a b)
  have HL : Hid (∀ q, gle 2000000 ([g0, g1, g2, g3].getD q (0, 0))) := by
    intro q
    match q with
    | 0 => exact m0
    | 1 => exact m1
    | 2 => exact m2
    | 3 => exact m3
    | q + 4 => simp [gle]
  have HN := hide hn
  clear h0 h1 h2 h3 m0 m1 m2 m3 hn
  obtain ⟨L, hL⟩ : ∃ L, [g0, g1, g2, g3] = L := ⟨_, rfl⟩
  rw [hL] at HC HL HH ⊢
  clear hL
  go_enter Tryd.func43, Tryd.ntmps43
  go_upto_region 2 with fail
  obtain ⟨W, hW⟩ : ∃ W, ((w.alloc (.cells #[v0, v1, v2, v3] 92)).alloc (.cells #[.complex .f64 0 0, .complex .f64 0 0, .complex .f64 0 0, .complex .f64 0 0] 92)).alloc (.cells #[.complex .f64 0 0, .complex .f64 0 0, .complex .f64 0 0, .complex .f64 0 0] 92) = W := ⟨_, rfl⟩
  have hsz : W.heap.size = w.heap.size + 3 := by rw [← hW]; simp
  have hB : Below w.heap.size w W := by rw [← hW]; exact (((Below.refl _ _).alloc (Nat.le_refl _) _).alloc (by simp) _).alloc (by simp; omega) _
  have hX : Blk W w.heap.size 92 [v0, v1, v2, v3] := by
    rw [← hW]
    exact ((Blk.new w 92 [v0, v1, v2, v3]).bel (alloc_bel _ _)).bel (alloc_bel _ _)
  have hR : Blk W (w.heap.size + 1) 92 [cz, cz, cz, cz] := by
    rw [← hW]
    exact (Blk.two w 92 92 [v0, v1, v2, v3] [cz, cz, cz, cz]).bel (alloc_bel _ _)
  have hC : Blk W (w.heap.size + 1 + 1) 92 [cz, cz, cz, cz] := by
    rw [← hW]
    have := Blk.two (w.alloc (.cells #[v0, v1, v2, v3] 92)) 92 92 [cz, cz, cz, cz] [cz, cz, cz, cz]
    rwa [show (w.alloc (.cells #[v0, v1, v2, v3] 92)).heap.size = w.heap.size + 1 from World.size_alloc _ _] at this
  rw [hW]
  clear hW
  obtain ⟨p, hp⟩ : ∃ p, w.heap.size + 1 = p := ⟨_, rfl⟩
  obtain ⟨q, hq⟩ : ∃ q, p + 1 = q := ⟨_, rfl⟩
  rw [hp] at hR hC ⊢
  rw [hq] at hC ⊢
  have hTW := hT.bel hB
  have HR0 := hide hr
  clear hr
  have c0 := hX.cell 0; have c1 := hX.cell 1; have c2 := hX.cell 2; have c3 := hX.cell 3; simp only [List.getElem?_cons_zero, List.getElem?_cons_succ] at c0 c1 c2 c3
  go_wp2
  clear c0 c1 c2 c3
  go_loopw [13] (fun i wr => ∃ (k : Nat) (cs : List Value), k ≤ 4 ∧ i = .int .i64 k ∧ Below q W wr ∧ cs.length = 4 ∧ Blk wr q 92 cs ∧
    Hid (∀ j, j < k → ∃ v, cs[j]? = some v ∧ CI v (restN L lines j 0))) (fun i _ => 4 - (intOf i).toNat)
  case atStart => exact ⟨0, [cz, cz, cz, cz], by omega, rfl, Below.refl _ _, rfl, hC, fun j h => absurd h (by omega)⟩
  case round =>
    obtain ⟨k, cs, hk, rfl, hbr, hcs, hCr, hst⟩ := hrel
    by_cases hlt4 : k < 4
    · obtain ⟨v, rv, hix, hmul, hrv⟩ := HC.out k hlt4
      have hzf := hCr.frozen k
      obtain ⟨vk, hvk⟩ : ∃ v, cs[k]? = some v := ⟨_, List.getElem?_eq_getElem (by omega)⟩
      have hzc := (hCr.cell k).trans hvk
      have hqr := hCr.lt
      have hSG : Hid (∀ j, j < k + 1 → ∃ v, (cs.set k rv)[j]? = some v ∧ CI v (restN L lines j 0)) := fun j hj => by
        rcases Nat.lt_succ_iff_lt_or_eq.1 hj with h | rfl
        · obtain ⟨u, s2, s3⟩ := hst.out j h
          exact ⟨u, by rw [List.getElem?_set_ne (by omega)]; exact s2, s3⟩
        · exact ⟨rv, by rw [List.getElem?_set_self (by omega)], hrv⟩
      obtain ⟨xr, yr, rfl, _, _⟩ := hrv
      go_wp2
      go_roundw
      case rel => exact ⟨k + 1, cs.set k (.complex .f64 xr yr), by omega, by go_num, hbr.setCell (Nat.le_refl _) _, by simp [hcs], hCr.set_ k _, hSG.out⟩
      case measure => simp [intOf]; omega
    · have d0 : decide ((k : Int) < 4) = false := by simp; omega
      have HS0 := hide (show ∀ j, j < 4 → ∃ v, cs[j]? = some v ∧ CI v (restN L lines j 0) from fun j hj => hst.out j (by omega))
      clear hst
      obtain ⟨hlW, hlt'⟩ : W.heap.size ≤ wr.heap.size ∧ w.heap.size < W.heap.size := ⟨hbr.size, by omega⟩
      clear hlt4 hC
      go_wp2
      go_loopw [24] (fun i wr => ∃ (k : Nat) (cs : List Value), k ≤ lines.length ∧ i = .int .i64 k ∧ Below q W wr ∧ cs.length = 4 ∧ Blk wr q 92 cs ∧
        Hid (∀ j, j < 4 → ∃ v, cs[j]? = some v ∧ CI v (restN L lines j k))) (fun i _ => lines.length - (intOf i).toNat)
      case atStart => exact ⟨0, cs, by omega, rfl, hbr, hcs, hCr, HS0.out⟩
      case round =>
        clear hbr hCr HS0 hcs hlW
        obtain ⟨k, cs, hk, rfl, hbr, hcs, hCr, hst⟩ := hrel
        by_cases hlt : k < lines.length
        · have HREST := hide (fun j => gle_rest HL.out lines j k)
          have HNEXT : Hid (∀ j, restN L lines j (k + 1) = gsubI (restN L lines j k) (gmul (harmN L lines[k] 4) (turnG ((lines[k] * j) % 4).toNat))) := fun j => by
            have e : lines.getD k 0 = lines[k] := by simp [List.getD, hlt]
            rw [restN, e]
          have hx := HN.out _ (List.getElem_mem hlt)
          obtain ⟨bB, oB, rfl, hbB, z0⟩ := HR0.out.int_at hlt
          have hbw := tr hB hbr (show w.heap.size ≤ q by omega)
          replace z0 := (hbw.cell (p := ⟨bB, _, none⟩) hbB).trans z0
          have hbBr : bB < wr.heap.size := Nat.lt_of_lt_of_le hbB hbw.size
          have hTr := hT.bel hbw
          have HGH := hide (gle_harm HL.out lines[k] 4)
          generalize lines[k] = x at z0 hx HNEXT HGH
          obtain ⟨x0, x3⟩ := hx
          have ix0 : (0 : Int) ≤ (k : Int) := by omega
          have ix1 : (k : Int) < (lines.length : Int) := by omega
          have d1 : decide ((k : Int) < (lines.length : Int)) = true := by simp; omega
          have hXr := hX.below hbr (by omega)
          have hXl := hXr.lt
          have c0 := hXr.cell 0; have c1 := hXr.cell 1; have c2 := hXr.cell 2; have c3 := hXr.cell 3; simp only [List.getElem?_cons_zero, List.getElem?_cons_succ] at c0 c1 c2 c3
          go_upto_region 11 with (first | (go_at_call 53; refine (HH.out x (by omega) (by omega) _ hTr).mono ?_; rintro e w3 ⟨⟨vh, rfl, hh⟩, hb3⟩))
          have hq3 := hCr.lt
          have hbr3 : Below q W w3 := hbr.trans (hb3.mono (by omega))
          have hC3 := hCr.bel hb3
          clear c0 c1 c2 c3 z0 hXr hXl hb3 hbr hCr hTr hbw hbBr
          go_wp2
          go_loopw [31] (fun i w2 => ∃ (i' : Nat) (cs' : List Value), i' ≤ 4 ∧ i = .int .i64 i' ∧ Below q W w2 ∧ cs'.length = 4 ∧ Blk w2 q 92 cs' ∧
            Hid (∀ j, j < 4 → ∃ v, cs'[j]? = some v ∧ CI v (restM L lines k i' j))) (fun i _ => 4 - (intOf i).toNat)
          case atStart => exact ⟨0, cs, by omega, rfl, hbr3, hcs, hC3, fun j hj => by simpa [restM] using hst.out j hj⟩
          case round =>
            clear hbr3 hC3 hcs hst hq3
            obtain ⟨i, cs, hi, rfl, hbr, hcs, hCr, hst⟩ := hrel
            have hbw := tr hB hbr (show w.heap.size ≤ q by omega)
            by_cases hi4 : i < 4
            · obtain ⟨v, hv, hcv⟩ := hst.out i hi4
              rw [show restM L lines k i i = restN L lines i k by simp [restM]] at hcv
              have hgv := HREST.out i
              have hnx := HNEXT.out i
              have hxi : 0 ≤ x * (i : Int) ∧ x * (i : Int) ≤ 9 := by
                refine ⟨Int.mul_nonneg (by omega) (by omega), ?_⟩
                have h2 : x * (i : Int) ≤ 3 * 3 := Int.mul_le_mul (by omega) (by omega) (by omega) (by omega)
                omega
              have hk4 : (x * (i : Int) % 4).toNat < 4 := by omega
              have hTr := hT.bel hbw
              have HP := hide (fun W' (hb : Below wr.heap.size wr W') => powerOfI_c (x * (i : Int)) W' (hTr.bel hb) (by omega) (by omega))
              have ix2 : IntKind.i64.wrap (x * (i : Int)) = x * (i : Int) := by simp (disch := omega) only [IntWalk.i64_in]
              have ix3 : (0 : Int) ≤ (i : Int) := by omega
              have ix4 : (i : Int) < 4 := by omega
              have HM := hide (fun vt (ht : CI vt (turnG (x * (i : Int) % 4).toNat)) => CI.mulTurn hh ht hk4 HGH.out (by omega))
              have hqr := hCr.lt
              have hzc := (hCr.cell i).trans hv
              have HCr := hide hCr
              have HST := hide (fun vn (hn : CI vn (restN L lines i (k + 1))) (j : Nat) (hj : j < 4) => show ∃ u, (cs.set i vn)[j]? = some u ∧ CI u (restM L lines k (i + 1) j) from by
                by_cases e : j = i
                · subst e
                  exact ⟨vn, by rw [List.getElem?_set_self (by omega)], by rw [restM, if_pos (by omega)]; exact hn⟩
                · obtain ⟨u, s2, s3⟩ := hst.out j hj
                  refine ⟨u, by rw [List.getElem?_set_ne (by omega)]; exact s2, ?_⟩
                  unfold restM at s3 ⊢
                  by_cases e2 : j < i
                  · rw [if_pos e2] at s3; rw [if_pos (by omega)]; exact s3
                  · rw [if_neg e2] at s3; rw [if_neg (by omega)]; exact s3)
              rw [hnx] at HST
              clear hst hCr hnx hxi
              go_upto_region 14 with fail
              refine wp_region_M (fun w' => (∀ b o, b < wr.heap.size → w'.cell? ⟨b, o, none⟩ = wr.cell? ⟨b, o, none⟩) ∧ Below wr.heap.size wr w') 11 (by kernel_rfl) ?_
              have hSd := kp_refl wr
              refine AnyM.take (i := 0) (v := ?_) rfl (by kernel_rfl) (by kernel_rfl) (by kernel_rfl) (by kernel_rfl) (fun _ _ _ h => h) (Or.inl ⟨by rfl, ?_⟩) (by assumption) ?_
              rotate_left 1
              · (intro w hSw; (try dsimp only at hSw); go_simp <;> with_reducible rfl)
              try simp only [Act.put]
              refine AnyM.take (i := 1) (v := ?_) rfl (by kernel_rfl) (by kernel_rfl) (by kernel_rfl) (by kernel_rfl) (fun _ _ _ h => h) (Or.inl ⟨by rfl, ?_⟩) (by assumption) ?_
              rotate_left 1
              · (intro w hSw; (try dsimp only at hSw); go_simp <;> with_reducible rfl)
              try simp only [Act.put]
              refine AnyM.take (i := 2) (v := ?_) rfl (by kernel_rfl) (by kernel_rfl) (by kernel_rfl) (by kernel_rfl) (fun _ _ _ h => h) (Or.inl ⟨by rfl, ?_⟩) (by assumption) ?_
              rotate_left 1
              · (intro w hSw; (try dsimp only at hSw); go_simp <;> with_reducible rfl)
              try simp only [Act.put]
              refine AnyM.take (i := 3) (v := ?_) rfl (by kernel_rfl) (by kernel_rfl) (by kernel_rfl) (by kernel_rfl) (fun _ _ _ h => h) (Or.inl ⟨by rfl, ?_⟩) (by assumption) ?_
              rotate_left 1
              · (intro w hSw; (try dsimp only at hSw); go_simp <;> with_reducible rfl)
              try simp only [Act.put]
              refine AnyM.take (i := 4) (v := ?_) rfl (by kernel_rfl) (by kernel_rfl) (by kernel_rfl) (by kernel_rfl) (fun _ _ _ h => h) (Or.inl ⟨by rfl, ?_⟩) (by assumption) ?_
              rotate_left 1
              · (intro w hSw; (try dsimp only at hSw); go_simp <;> with_reducible rfl)
              try simp only [Act.put]
              refine AnyM.take (i := 5) (v := ?_) rfl (by kernel_rfl) (by kernel_rfl) (by kernel_rfl) (by kernel_rfl) (fun _ _ _ h => h) (Or.inl ⟨by rfl, ?_⟩) (by assumption) ?_
              rotate_left 1
              · (intro w hSw; (try dsimp only at hSw); go_simp <;> with_reducible rfl)
              try simp only [Act.put]
              refine AnyM.take (i := 6) (v := ?_) rfl (by kernel_rfl) (by kernel_rfl) (by kernel_rfl) (by kernel_rfl) (fun _ _ _ h => h) (Or.inl ⟨by rfl, ?_⟩) (by assumption) ?_
              rotate_left 1
              · (intro w hSw; (try dsimp only at hSw); go_simp <;> with_reducible rfl)
              try simp only [Act.put]
              refine AnyM.next [7] (by kernel_rfl) (by simp) ?_
              refine NextM.cons rfl (fun K hK => ?_) NextM.nil
              go_simp
              refine (HP.out _ hSd.2).mono ?_
              rintro e w7 ⟨⟨vt, rfl, ht⟩, hb7⟩
              obtain ⟨⟨r1, hr1, q1⟩, l1⟩ := HM.out vt ht
              obtain ⟨r2, hr2, q2⟩ := CI.subI hcv q1 hgv l1 (by omega)
              have HST2 := hide (HST.out r2 q2)
              obtain ⟨xr, yr, rfl, _, _⟩ := q2
              have hB7 := bel_tr hSd.2 hSd.2.size hb7
              clear hSd HST HM
              have hSd := kp hB7
              try dsimp only
              refine hK.out _ _ (fun _ => hSd) ?_
              clear hK K
              try simp only [Act.put]
              refine AnyM.take (i := 8) (v := ?_) rfl (by kernel_rfl) (by kernel_rfl) (by kernel_rfl) (by kernel_rfl) (fun _ _ _ h => h) (Or.inl ⟨by rfl, ?_⟩) (by assumption) ?_
              rotate_left 1
              · (intro w hSw; (try dsimp only at hSw); go_simp <;> with_reducible rfl)
              try simp only [Act.put]
              refine AnyM.take (i := 9) (v := ?_) rfl (by kernel_rfl) (by kernel_rfl) (by kernel_rfl) (by kernel_rfl) (fun _ _ _ h => h) (Or.inl ⟨by rfl, ?_⟩) (by assumption) ?_
              rotate_left 1
              · (intro w hSw; (try dsimp only at hSw); go_simp <;> with_reducible rfl)
              try simp only [Act.put]
              refine AnyM.take (i := 10) (v := ?_) rfl (by kernel_rfl) (by kernel_rfl) (by kernel_rfl) (by kernel_rfl) (fun _ _ _ h => h) (Or.inl ⟨by rfl, ?_⟩) (by assumption) ?_
              rotate_left 1
              · (intro w hSw; (try dsimp only at hSw); go_simp <;> with_reducible rfl)
              try simp only [Act.put]
              refine AnyM.next [11] (by kernel_rfl) (by simp) ?_
              refine NextM.cons rfl (fun K hK => ?_) NextM.nil
              have hC7 := HCr.out.bel hB7
              have f0 := hC7.frozen i
              have z7 := (hC7.cell i).trans hv
              go_simp
              refine hK.out _ _ (fun h => by simp at h) ?_
              clear hK K
              try simp only [Act.put]
              refine AnyM.done (by kernel_rfl) ?_ _
              have hGE := hC7.set_ i (.complex .f64 xr yr)
              have hbE : Below q W (w7.setCell ⟨q, i, none⟩ (.complex .f64 xr yr)) := (hbr.trans (hB7.mono (by omega))).setCell (p := ⟨q, i, none⟩) (Nat.le_refl _) _
              generalize w7.setCell ⟨q, i, none⟩ (.complex .f64 xr yr) = WE at hGE hbE ⊢
              clear hSd hB7 hb7 hC7 f0 z7 hzc
              go_wp2
              go_roundw
              case rel => exact ⟨i + 1, cs.set i (.complex .f64 xr yr), by omega, by go_num, hbE, by simp [hcs], hGE, HST2.out⟩
              case measure => simp [intOf]; omega
            · obtain rfl : i = 4 := by omega
              have d2 : decide (((4 : Nat) : Int) < 4) = false := rfl
              go_wp2
              go_roundw
              case rel =>
                exact ⟨k + 1, cs, by omega, by go_num, hbr, hcs, hCr, fun j hj => by have := hst.out j hj; rwa [restM, if_pos hj] at this⟩
              case measure => simp [intOf]; omega
        · obtain rfl : k = lines.length := by omega
          obtain ⟨a0, a1, a2, a3, rfl⟩ : ∃ a0 a1 a2 a3, cs = [a0, a1, a2, a3] := by
            match cs, hcs with
            | [a0, a1, a2, a3], _ => exact ⟨a0, a1, a2, a3, rfl⟩
          have HE := hide hst.out
          have hty : ∀ j, j < 4 → ∀ v, [a0, a1, a2, a3][j]? = some v → ∃ x y, v = .complex .f64 x y := fun j hj v hv => by
            obtain ⟨u, e, x, y, h, _, _⟩ := HE.out j hj
            rw [hv] at e; cases e
            exact ⟨x, y, h⟩
          obtain ⟨x0, y0, rfl⟩ := hty 0 (by omega) a0 rfl
          obtain ⟨x1, y1, rfl⟩ := hty 1 (by omega) a1 rfl
          obtain ⟨x2, y2, rfl⟩ := hty 2 (by omega) a2 rfl
          obtain ⟨x3, y3, rfl⟩ := hty 3 (by omega) a3 rfl
          clear hty hst
          have hRr : Blk wr p 92 [cz, cz, cz, cz] := hR.below hbr (by omega)
          have hbw := tr hB hbr (show w.heap.size ≤ q by omega)
          have u0 := hCr.cell 0
          have u1 := hCr.cell 1
          have u2 := hCr.cell 2
          have u3 := hCr.cell 3
          have d0 := hRr.cell 0
          have d1 := hRr.cell 1
          have d2 := hRr.cell 2
          have d3 := hRr.cell 3
          simp only [List.getElem?_cons_zero, List.getElem?_cons_succ] at u0 u1 u2 u3 d0 d1 d2 d3
          have k0 := hRr.frozen 0
          have k1 := hRr.frozen 1
          have k2 := hRr.frozen 2
          have k3 := hRr.frozen 3
          go_wp2
          obtain ⟨WE, hWE⟩ : ∃ WE, (((wr.setCell ⟨p, 0, none⟩ (.complex .f64 x0 y0)).setCell ⟨p, 1, none⟩ (.complex .f64 x1 y1)).setCell ⟨p, 2, none⟩ (.complex .f64 x2 y2)).setCell ⟨p, 3, none⟩ (.complex .f64 x3 y3) = WE := ⟨_, rfl⟩
          rw [hWE]
          have hE : Blk WE p 92 [.complex .f64 x0 y0, .complex .f64 x1 y1, .complex .f64 x2 y2, .complex .f64 x3 y3] := by
            rw [← hWE]; exact (((hRr.set_ 0 _).set_ 1 _).set_ 2 _).set_ 3 _
          have hBE : Below w.heap.size w WE := by
            rw [← hWE]
            exact (((hbw.setCell (by show w.heap.size ≤ p; omega) _).setCell (by show w.heap.size ≤ p; omega) _).setCell (by show w.heap.size ≤ p; omega) _).setCell (by show w.heap.size ≤ p; omega) _
          have e0 := hE.cell 0
          have e1 := hE.cell 1
          have e2 := hE.cell 2
          have e3 := hE.cell 3
          simp only [List.getElem?_cons_zero, List.getElem?_cons_succ] at e0 e1 e2 e3
          clear hWE
          try simp only [Exit.inBlock, Exit.then]
          refine bodyPost_ret (by simp [results, Tryd.results43, go_sem, e0, e1, e2, e3]; try rfl) rfl ?_
          exact ⟨⟨[_, _, _, _], rfl, rfl, HE.out⟩, hBE⟩
end Go.Proofs.YtnigmdkhecblnaaDoor
