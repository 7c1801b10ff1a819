/- Contracts: what a wave gives at a lag of a frame. -/
import Derived.Test.YtmedjedmeggbpaaDoorW13
namespace Go.Proofs.YtmedjedmeggbpaaDoor
open Go.RowKit
set_option maxRecDepth 100000
attribute [local go_sem] run_store_complex

def gconj (g : Int × Int) : Int × Int := (g.1, -g.2)
/-- The sum, and the number of missing samples, over the first numbers of a wave. -/
def compS (us : List Bool) (samples wave : List (Int × Int)) (lag : Nat) : Nat → Int × Int
  | 0 => (0, 0)
  | i + 1 => if us.getD (lag + i) false = true then gadd (compS us samples wave lag i) (gmul (gconj (wave.getD i (0, 0))) (samples.getD (lag + i) (0, 0))) else compS us samples wave lag i
def compM (us : List Bool) (lag : Nat) : Nat → Nat
  | 0 => 0
  | i + 1 => if us.getD (lag + i) false = true then compM us lag i else compM us lag i + 1
theorem compM_le (us : List Bool) (lag k : Nat) : compM us lag k ≤ k := by
  induction k with
  | zero => exact Nat.le_refl _
  | succ k ih => simp only [compM]; split <;> omega

theorem compM_hit {us : List Bool} {lag k : Nat} (h : us.getD (lag + k) false = true) : compM us lag (k + 1) = compM us lag k := by simp only [compM]; rw [if_pos h]
theorem compM_miss {us : List Bool} {lag k : Nat} (h : us.getD (lag + k) false = false) : compM us lag (k + 1) = compM us lag k + 1 := by simp only [compM]; rw [if_neg (by rw [h]; decide)]
theorem compS_hit {us : List Bool} {samples wave : List (Int × Int)} {lag k : Nat} (h : us.getD (lag + k) false = true) : compS us samples wave lag (k + 1) = gadd (compS us samples wave lag k) (gmul (gconj (wave.getD k (0, 0))) (samples.getD (lag + k) (0, 0))) := by simp only [compS]; rw [if_pos h]
theorem compS_miss {us : List Bool} {samples wave : List (Int × Int)} {lag k : Nat} (h : us.getD (lag + k) false = false) : compS us samples wave lag (k + 1) = compS us samples wave lag k := by simp only [compS]; rw [if_neg (by rw [h]; decide)]
theorem conj_turn {k : Nat} (hk : k < 4) : ∃ j, j < 4 ∧ gconj (turnG k) = turnG j := by
  have e : k = 0 ∨ k = 1 ∨ k = 2 ∨ k = 3 := by omega
  rcases e with rfl | rfl | rfl | rfl
  · exact ⟨0, by omega, by decide⟩
  · exact ⟨3, by omega, by decide⟩
  · exact ⟨2, by omega, by decide⟩
  · exact ⟨1, by omega, by decide⟩

theorem CI.turnMul {v u : Value} {g : Int × Int} {k : Nat} {M : Int} (hv : CI v g) (hu : CI u (turnG k)) (hk : k < 4) (hg : gle M g) (hM : M ≤ 4503599627370496) :
    (∃ r, (∀ P W t, Sem.run P (Go.binOp .mul t u v) W = .ok r W) ∧ CI r (gmul (turnG k) g)) ∧ gle M (gmul (turnG k) g) := by
  obtain ⟨a, b⟩ := g
  obtain ⟨x, y, rfl, hx, hy⟩ := hv
  obtain ⟨z, t, rfl, hz, ht⟩ := hu
  obtain ⟨g1, g2, g3, g4⟩ := hg
  dsimp only at g1 g2 g3 g4 hx hy
  have e : k = 0 ∨ k = 1 ∨ k = 2 ∨ k = 3 := by omega
  have key : ∀ c d : Int, FI z c → FI t d → (c * a).natAbs < 9007199254740992 → (d * b).natAbs < 9007199254740992 → (c * b).natAbs < 9007199254740992 → (d * a).natAbs < 9007199254740992 → (c * a - d * b).natAbs < 9007199254740992 → (c * b + d * a).natAbs < 9007199254740992 →
      ∃ r, (∀ P W t', Sem.run P (Go.binOp .mul t' (.complex .f64 z t) (.complex .f64 x y)) W = .ok r W) ∧ CI r (c * a - d * b, c * b + d * a) := by
    intro c d hc hd n1 n2 n3 n4 n5 n6
    obtain ⟨r1, m1, f1⟩ := hc.mul hx n1
    obtain ⟨r2, m2, f2⟩ := hd.mul hy n2
    obtain ⟨r3, m3, f3⟩ := f1.sub f2 n5
    obtain ⟨r4, m4, f4⟩ := hc.mul hy n3
    obtain ⟨r5, m5, f5⟩ := hd.mul hx n4
    obtain ⟨r6, m6, f6⟩ := f4.add f5 n6
    refine ⟨.complex .f64 r3 r6, fun P W t' => run_complex_mul W t' _ _ _ _ _ _ ?_, _, _, rfl, f3, f6⟩
    simp [cMulBits, m1, m2, m3, m4, m5, m6]
  rcases e with rfl | rfl | rfl | rfl
  · refine ⟨key 1 0 hz ht ?_ ?_ ?_ ?_ ?_ ?_, ?_⟩
    all_goals simp [gle, gmul, turnG, tabL]
    all_goals omega
  · refine ⟨key 0 1 hz ht ?_ ?_ ?_ ?_ ?_ ?_, ?_⟩
    all_goals simp [gle, gmul, turnG, tabL]
    all_goals omega
  · refine ⟨key (-1) 0 hz ht ?_ ?_ ?_ ?_ ?_ ?_, ?_⟩
    all_goals simp [gle, gmul, turnG, tabL]
    all_goals omega
  · refine ⟨key 0 (-1) hz ht ?_ ?_ ?_ ?_ ?_ ?_, ?_⟩
    all_goals simp [gle, gmul, turnG, tabL]
    all_goals omega

section
variable {w wx w1 : World} {n : Nat} {p0 p1 p2 p3 p4 : Addr} {v0 v1 v2 v3 v4 : Value}
theorem hold5_bel (h : wx.cell? p0 = some v0 ∧ wx.cell? p1 = some v1 ∧ wx.cell? p2 = some v2 ∧ wx.cell? p3 = some v3 ∧ wx.cell? p4 = some v4 ∧ Below n w wx) (hb : Below wx.heap.size wx w1) (hB : n ≤ wx.heap.size) :
    w1.cell? p0 = some v0 ∧ w1.cell? p1 = some v1 ∧ w1.cell? p2 = some v2 ∧ w1.cell? p3 = some v3 ∧ w1.cell? p4 = some v4 ∧ Below n w w1 := by
  obtain ⟨h0, h1, h2, h3, h4, h5⟩ := h
  exact ⟨(hb.cell (World.block_lt_of_cell? _ _ h0)).trans h0, (hb.cell (World.block_lt_of_cell? _ _ h1)).trans h1, (hb.cell (World.block_lt_of_cell? _ _ h2)).trans h2, (hb.cell (World.block_lt_of_cell? _ _ h3)).trans h3, (hb.cell (World.block_lt_of_cell? _ _ h4)).trans h4, h5.trans (hb.mono hB)⟩
theorem hold5_drew (h : wx.cell? p0 = some v0 ∧ wx.cell? p1 = some v1 ∧ wx.cell? p2 = some v2 ∧ wx.cell? p3 = some v3 ∧ wx.cell? p4 = some v4 ∧ Below n w wx) :
    wx.drew.cell? p0 = some v0 ∧ wx.drew.cell? p1 = some v1 ∧ wx.drew.cell? p2 = some v2 ∧ wx.drew.cell? p3 = some v3 ∧ wx.drew.cell? p4 = some v4 ∧ Below n w wx.drew :=
  ⟨h.1, h.2.1, h.2.2.1, h.2.2.2.1, h.2.2.2.2.1, h.2.2.2.2.2.drew⟩
end

theorem compressedAt_c (gain limit : Int) (A G U B : Option Addr) (cA c cU ng cB : Nat) (samples wave : List (Int × Int)) (us : List Bool) (lag : Nat) (w : World) (hs : Rd w A (gs samples)) (hu : Rd w U (bls us)) (hv : Rd w B (gs wave))
    (hl : us.length = samples.length) (hf : lag + wave.length ≤ samples.length) (hn : samples.length ≤ 1000) (hb : ∀ g ∈ samples, gle 2000000 g) (hp : ∀ g ∈ wave, isPow g = true) :
    Calls Tryd.prog 119 #[.agg #[.int .i64 gain, .int .i64 limit, .slice A samples.length cA, .slice G ng c, .slice U samples.length cU], .slice B wave.length cB, .int .i64 lag] w fun r w' =>
      r = .returned (.tuple #[.agg #[.int .i64 (compS us samples wave lag wave.length).1, .int .i64 (compS us samples wave lag wave.length).2], .int .i64 (compM us lag wave.length)]) ∧ Below w.heap.size w w' := by
  have HB := hide hb
  have HP := hide hp
  clear hb hp
  go_enter Tryd.func119, Tryd.ntmps119
  go_upto_region 2 with fail
  obtain ⟨W, hW⟩ : ∃ W, (w.alloc (.cells #[.int .i64 gain, .int .i64 limit, .slice A samples.length cA, .slice G ng c, .slice U samples.length cU] 158)).alloc (.cells #[.int .i64 0, .int .i64 0] 76) = W := ⟨_, rfl⟩
  have hsz : W.heap.size = w.heap.size + 2 := by rw [← hW]; simp
  have hB : Below w.heap.size w W := by rw [← hW]; exact ((Below.refl _ _).alloc (Nat.le_refl _) _).alloc (by simp) _
  have hX : Blk W w.heap.size 158 [.int .i64 gain, .int .i64 limit, .slice A samples.length cA, .slice G ng c, .slice U samples.length cU] := by
    rw [← hW]
    refine Blk.below (B := w.heap.size + 1) (Blk.new w 158 [.int .i64 gain, .int .i64 limit, .slice A samples.length cA, .slice G ng c, .slice U samples.length cU]) ?_ (by omega)
    exact (Below.refl _ _).alloc (by simp) _
  have hR : Blk W (w.heap.size + 1) 76 [.int .i64 0, .int .i64 0] := by
    rw [← hW]
    have h0 := Blk.new (w.alloc (.cells #[.int .i64 gain, .int .i64 limit, .slice A samples.length cA, .slice G ng c, .slice U samples.length cU] 158)) 76 [.int .i64 0, .int .i64 0]
    rw [show (w.alloc (.cells #[.int .i64 gain, .int .i64 limit, .slice A samples.length cA, .slice G ng c, .slice U samples.length cU] 158)).heap.size = w.heap.size + 1 from by simp] at h0
    exact h0
  rw [hW]
  clear hW
  obtain ⟨p, hp⟩ : ∃ p, w.heap.size + 1 = p := ⟨_, rfl⟩
  rw [hp] at hR ⊢
  have c2 := hX.cell 2
  have c4 := hX.cell 4
  simp only [List.getElem?_cons_zero, List.getElem?_cons_succ] at c2 c4
  go_wp2
  go_loopw [8, 9, 14] (fun s m i wr => ∃ k : Nat, k ≤ wave.length ∧ i = .int .i64 k ∧ m = .int .i64 (compM us lag k) ∧ CI s (compS us samples wave lag k) ∧ gle (k * 2000000) (compS us samples wave lag k) ∧ Below W.heap.size W wr) (fun _ _ i _ => wave.length - (intOf i).toNat)
  case atStart => exact ⟨0, by omega, rfl, rfl, CI.zero, by simp [gle, compS], Below.refl _ _⟩
  case round =>
    obtain ⟨k, hk, rfl, rfl, hcs, hgs, hbr⟩ := hrel
    have hbw : Below w.heap.size w wr := tr hB hbr (by omega)
    have b2 := (hbr.cell (p := ⟨w.heap.size, 2, none⟩) (by show w.heap.size < W.heap.size; omega)).trans c2
    have b4 := (hbr.cell (p := ⟨w.heap.size, 4, none⟩) (by show w.heap.size < W.heap.size; omega)).trans c4
    have hltr : w.heap.size < wr.heap.size := by have := hbr.size; omega
    by_cases hlt : k < wave.length
    · obtain ⟨bB, offB, rfl, hbB, y1, y2⟩ := (hv.bel hbw).g_at (k := k) hlt
      obtain ⟨bU, offU, rfl, hbU, zu⟩ := (hu.bel hbw).b_at (k := lag + k) (by omega)
      have hgd : us.getD (lag + k) false = us[lag + k] := by simp [List.getD, show lag + k < us.length from by omega]
      have hgw : wave.getD k (0, 0) = wave[k] := by simp [List.getD, hlt]
      obtain ⟨t, ht, hwt⟩ := isPow_turn (HP.out _ (List.getElem_mem hlt))
      have hmk := compM_le us lag k
      by_cases hus : us[lag + k] = true
      · rw [hus] at zu hgd
        have HM : Hid (compM us lag (k + 1) = compM us lag k) := compM_hit hgd
        obtain ⟨bA, offA, rfl, hbA, z1, z2⟩ := (hs.bel hbw).g_at (k := lag + k) (by omega)
        have hgs' : samples.getD (lag + k) (0, 0) = samples[lag + k] := by simp [List.getD, show lag + k < samples.length from by omega]
        have hle := HB.out _ (List.getElem_mem (show lag + k < samples.length by omega))
        have HS : Hid (compS us samples wave lag (k + 1) = gadd (compS us samples wave lag k) (gmul (gconj wave[k]) samples[lag + k])) := by rw [← hgw, ← hgs']; exact compS_hit hgd
        rw [hwt] at y1 y2 HS
        clear hwt hgw hus hgd hgs'
        generalize samples[lag + k] = smp at z1 z2 HS hle
        obtain ⟨sa, sb⟩ := smp
        obtain ⟨l1, l2, l3, l4⟩ := hle
        have hle : Hid (gle 2000000 (sa, sb)) := ⟨l1, l2, l3, l4⟩
        dsimp only at z1 z2 l1 l2 l3 l4
        obtain ⟨j, hj, hcj⟩ := conj_turn ht
        have htb := turnG_small t ht
        generalize hgt : turnG t = gt at y1 y2 HS hcj htb
        obtain ⟨ga, gb⟩ := gt
        obtain ⟨t1, t2, t3, t4⟩ := htb
        dsimp only at y1 y2 t1 t2 t3 t4
        generalize compM us lag k = mk at HM hmk
        generalize compS us samples wave lag k = sk at HS hcs hgs
        go_upto_region 6 with fail
        generalize hV : wr.alloc (.cells #[.int .i64 ga, .int .i64 gb] 76) = V
        have hBV : Below wr.heap.size wr V := by rw [← hV]; exact (Below.refl _ _).alloc (Nat.le_refl _) _
        have hTV : Blk V wr.heap.size 76 [.int .i64 ga, .int .i64 gb] := by rw [← hV]; exact Blk.new wr 76 [.int .i64 ga, .int .i64 gb]
        clear hV
        have HV : Hid (V.cell? ⟨w.heap.size, 2, none⟩ = some (.slice (some ⟨bA, offA, none⟩) samples.length cA) ∧ V.cell? ⟨wr.heap.size, 0, none⟩ = some (.int .i64 ga) ∧ V.cell? ⟨wr.heap.size, 1, none⟩ = some (.int .i64 gb) ∧
            V.cell? ⟨bA, offA + (lag + k) * 2, none⟩ = some (.int .i64 sa) ∧ V.cell? ⟨bA, offA + (lag + k) * 2 + 1, none⟩ = some (.int .i64 sb) ∧ Below W.heap.size W V) :=
          ⟨(hBV.cell (p := ⟨w.heap.size, 2, none⟩) hltr).trans b2, hTV.cell 0, hTV.cell 1, (hBV.cell (p := ⟨bA, _, none⟩) hbA).trans z1, (hBV.cell (p := ⟨bA, _, none⟩) hbA).trans z2, tr hbr hBV hbr.size⟩
        have hz0 : W.heap.size ≤ V.drew.heap.size := Nat.le_trans hbr.size hBV.size
        clear hTV b2 b4 y1 y2 z1 z2 zu
        have ix0 : (0 : Int) ≤ (lag : Int) + (k : Int) := by omega
        have ix1 : (lag : Int) + (k : Int) < (samples.length : Int) := by omega
        have hwl : IntKind.i64.wrap ((lag : Int) + (k : Int)) = (lag : Int) + (k : Int) := by simp (disch := omega) only [IntWalk.i64_in]
        have htn : ((lag : Int) + (k : Int)).toNat = lag + k := by omega
        have hcu : Hid (∀ v, CI v (ga, -gb) → CI v (turnG j)) := fun v h => by rw [← hcj]; exact h
        have hkM : Hid ((k : Int) * 2000000 + 2000000 ≤ 4503599627370496) := (by omega : (k : Int) * 2000000 + 2000000 ≤ 4503599627370496)
        go_region_held3 (fun w' => w'.cell? ⟨w.heap.size, 2, none⟩ = some (.slice (some ⟨bA, offA, none⟩) samples.length cA) ∧ w'.cell? ⟨wr.heap.size, 0, none⟩ = some (.int .i64 ga) ∧ w'.cell? ⟨wr.heap.size, 1, none⟩ = some (.int .i64 gb) ∧
            w'.cell? ⟨bA, offA + (lag + k) * 2, none⟩ = some (.int .i64 sa) ∧ w'.cell? ⟨bA, offA + (lag + k) * 2 + 1, none⟩ = some (.int .i64 sb) ∧ Below W.heap.size W w')
          (first | with_reducible exact hold5_drew HV.out | with_reducible exact HA.out | with_reducible exact HD.out)
          (first
            | (go_at_call 145; have _g := hvc; refine (number_c sa sb _ (by omega) (by omega)).mono ?_; rintro e wd ⟨⟨vd, rfl, hvd⟩, hbd⟩; have HD := hide (hold5_bel HA.out hbd (Nat.le_trans hz0 hba.size)); obtain ⟨⟨r1, hr1, q1⟩, m1⟩ := CI.turnMul hvd (hcu.out _ hvc) hj hle.out (by omega); obtain ⟨⟨r2, hr2, q2⟩, m2⟩ := CI.add hcs q1 hgs m1 hkM.out)
            | (go_at_call 145; refine (number_c ga gb _ (by omega) (by omega)).mono ?_; rintro e wa ⟨⟨va, rfl, hva⟩, hba⟩; have HA := hide (hold5_bel (hold5_drew HV.out) hba hz0))
            | (go_at_call 144; refine (conjugate_c va ga gb hva _).mono ?_; rintro e wc ⟨⟨vc, rfl, hvc⟩, rfl⟩))
        go_wp2_with fail
        go_roundw
        case rel =>
          refine ⟨k + 1, by omega, by go_num, ?_, ?_, ?_, HD.out.2.2.2.2.2⟩
          · rw [HM.out]
          · rw [HS.out, hcj]; exact q2
          · rw [HS.out, hcj]
            have e : ((k + 1 : Nat) : Int) * 2000000 = (k : Int) * 2000000 + 2000000 := by rw [Int.natCast_succ, Int.add_mul, Int.one_mul]
            rw [e]; exact m2
        case measure => simp [intOf]; omega
      · have hus' : us[lag + k] = false := by simpa using hus
        rw [hus'] at zu hgd
        have HM : Hid (compM us lag (k + 1) = compM us lag k + 1) := compM_miss hgd
        have HS : Hid (compS us samples wave lag (k + 1) = compS us samples wave lag k) := compS_miss hgd
        clear hus hgd hgw hwt
        generalize compM us lag k = mk at HM hmk
        generalize compS us samples wave lag k = sk at HS hcs hgs
        go_wp2
        go_roundw
        case rel =>
          refine ⟨k + 1, by omega, by go_num, ?_, ?_, ?_, hbr.alloc hbr.size _⟩
          · rw [HM.out]; go_num
          · rw [HS.out]; exact hcs
          · rw [HS.out]
            have e : ((k + 1 : Nat) : Int) * 2000000 = (k : Int) * 2000000 + 2000000 := by rw [Int.natCast_succ, Int.add_mul, Int.one_mul]
            simp only [gle] at hgs ⊢
            omega
        case measure => simp [intOf]; omega
    · obtain rfl : k = wave.length := by omega
      have hRr : Blk wr p 76 _ := hR.bel hbr
      have d0 := hRr.cell 0
      have d1 := hRr.cell 1
      simp only [List.getElem?_cons_zero, List.getElem?_cons_succ] at d0 d1
      have k0 := hRr.frozen 0
      have k1 := hRr.frozen 1
      have hbd : wave.length ≤ 1000 := by omega
      obtain ⟨mk, hmk⟩ : ∃ mk, compM us lag wave.length = mk := ⟨_, rfl⟩
      obtain ⟨⟨sa, sb⟩, hsk⟩ : ∃ sk, compS us samples wave lag wave.length = sk := ⟨_, rfl⟩
      rw [hsk] at hcs hgs
      rw [hmk]
      have HR : Hid (compM us lag wave.length = mk ∧ compS us samples wave lag wave.length = (sa, sb)) := ⟨hmk, hsk⟩
      clear hmk hsk
      obtain ⟨g1, g2, g3, g4⟩ := hgs
      dsimp only at g1 g2 g3 g4
      go_wp2_with (first | (go_at_call 132; refine (gauss_c _ sa sb hcs _ (by omega) (by omega)).mono ?_; rintro e w3 ⟨rfl, hb3⟩; have hR3 := hRr.bel hb3; have e0 := hR3.cell 0; have e1 := hR3.cell 1; have f0 := hR3.frozen 0; have f1 := hR3.frozen 1; simp only [List.getElem?_cons_zero, List.getElem?_cons_succ] at e0 e1))
      obtain ⟨WE, hWE⟩ : ∃ WE, (w3.setCell ⟨p, 0, none⟩ (.int .i64 sa)).setCell ⟨p, 1, none⟩ (.int .i64 sb) = WE := ⟨_, rfl⟩
      rw [hWE]
      have hE : Blk WE p 76 [.int .i64 sa, .int .i64 sb] := by rw [← hWE]; exact (hR3.set_ 0 _).set_ 1 _
      have hBE : Below w.heap.size w WE := by
        have hX : Below w.heap.size w w3 := tr hbw hb3 hbw.size
        rw [← hWE]
        exact (hX.setCell (by show w.heap.size ≤ p; omega) _).setCell (by show w.heap.size ≤ p; omega) _
      have g0 := hE.cell 0
      have g1 := hE.cell 1
      simp only [List.getElem?_cons_zero, List.getElem?_cons_succ] at g0 g1
      clear hWE
      try simp only [Exit.inBlock, Exit.then]
      refine bodyPost_ret (by simp [results, Tryd.results119, go_sem, g0, g1]; try rfl) rfl ?_
      exact ⟨by rw [HR.out.1, HR.out.2], hBE⟩
end Go.Proofs.YtmedjedmeggbpaaDoor
