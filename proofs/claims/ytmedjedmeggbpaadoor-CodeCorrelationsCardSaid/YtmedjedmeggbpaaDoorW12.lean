/- Contracts: blocks of a frame. -/
import Derived.Test.YtmedjedmeggbpaaDoorW9
import Derived.Test.YtmedjedmeggbpaaDoorW11
namespace Go.Proofs.YtmedjedmeggbpaaDoor
open Go.RowKit
set_option maxRecDepth 100000

/-- A complex number is stored in one cell. -/
theorem run_store_complex (P : Program) (w : World) (a : Addr) (k : FloatKind) (x y : Nat) (m : Mode) : (store a (.complex k x y) m).run P w = stored P w a (.complex k x y) m := run_store P w a _ m rfl
attribute [local go_sem] run_store_complex

theorem Rd.b_at {w : World} {A : Option Addr} {l : List Bool} (h : Rd w A (bls l)) {k : Nat} (hk : k < l.length) : ∃ b off, A = some ⟨b, off, none⟩ ∧ b < w.heap.size ∧ w.cell? ⟨b, off + k, none⟩ = some (.bool l[k]) := by
  obtain ⟨b, off, rfl, hlt, hc⟩ := h (by intro e; have := congrArg List.length e; rw [bls_length, List.length_nil] at this; omega)
  exact ⟨b, off, rfl, hlt, hc k _ (by simp [bls, hk])⟩

/-- Zero, as a complex number. -/
def cz : Value := .complex .f64 0 0
/-- All four samples of a block are usable. -/
def allU (us : List Bool) (first : Nat) : Bool := us.getD first false && us.getD (first + 1) false && us.getD (first + 2) false && us.getD (first + 3) false
theorem allU_iff {us : List Bool} {first : Nat} : allU us first = true ↔ ∀ q, q < 4 → us.getD (first + q) false = true := by
  simp only [allU, Bool.and_eq_true]
  constructor
  · rintro ⟨⟨⟨h0, h1⟩, h2⟩, h3⟩ q hq
    have e : q = 0 ∨ q = 1 ∨ q = 2 ∨ q = 3 := by omega
    rcases e with rfl | rfl | rfl | rfl
    · exact h0
    · exact h1
    · exact h2
    · exact h3
  · intro h
    exact ⟨⟨⟨h 0 (by omega), h 1 (by omega)⟩, h 2 (by omega)⟩, h 3 (by omega)⟩

theorem blockAt_c (gain limit : Int) (A G U : Option Addr) (cA c cU ng : Nat) (samples : List (Int × Int)) (us : List Bool) (first : Nat) (w : World) (hs : Rd w A (gs samples)) (hu : Rd w U (bls us)) (hl : us.length = samples.length)
    (hf : first + 4 ≤ samples.length) (hn : samples.length ≤ 1000) (hb : ∀ g ∈ samples, gle 2000000 g) :
    Calls Tryd.prog 149 #[.agg #[.int .i64 gain, .int .i64 limit, .slice A samples.length cA, .slice G ng c, .slice U samples.length cU], .int .i64 first] w fun r w' =>
      ((allU us first = true ∧ ∃ v0 v1 v2 v3, r = .returned (.tuple #[.agg #[v0, v1, v2, v3], .bool true]) ∧ CI v0 (samples.getD first (0, 0)) ∧ CI v1 (samples.getD (first + 1) (0, 0)) ∧ CI v2 (samples.getD (first + 2) (0, 0)) ∧ CI v3 (samples.getD (first + 3) (0, 0))) ∨
        (allU us first = false ∧ r = .returned (.tuple #[.agg #[cz, cz, cz, cz], .bool false]))) ∧ Below w.heap.size w w' := by
  have HB := hide hb
  clear hb
  go_enter Tryd.func149, Tryd.ntmps149
  go_upto_region 2 with fail
  obtain ⟨W, hW⟩ : ∃ W, ((w.alloc (.cells #[.int .i64 gain, .int .i64 limit, .slice A samples.length cA, .slice G ng c, .slice U samples.length cU] 158)).alloc (.cells #[.complex .f64 0 0, .complex .f64 0 0, .complex .f64 0 0, .complex .f64 0 0] 180)).alloc (.cells #[.complex .f64 0 0, .complex .f64 0 0, .complex .f64 0 0, .complex .f64 0 0] 180) = W := ⟨_, rfl⟩
  have hsz : W.heap.size = w.heap.size + 3 := by rw [← hW]; simp
  have hB : Below w.heap.size w W := by rw [← hW]; exact (((Below.refl _ _).alloc (Nat.le_refl _) _).alloc (by simp) _).alloc (by simp; omega) _
  have hX : Blk W w.heap.size 158 [.int .i64 gain, .int .i64 limit, .slice A samples.length cA, .slice G ng c, .slice U samples.length cU] := by
    rw [← hW]
    refine Blk.below (B := w.heap.size + 1) (Blk.new w 158 [.int .i64 gain, .int .i64 limit, .slice A samples.length cA, .slice G ng c, .slice U samples.length cU]) ?_ (by omega)
    exact ((Below.refl _ _).alloc (by simp) _).alloc (by simp) _
  have hR : Blk W (w.heap.size + 1) 180 [cz, cz, cz, cz] := by
    rw [← hW]
    have h0 := Blk.new (w.alloc (.cells #[.int .i64 gain, .int .i64 limit, .slice A samples.length cA, .slice G ng c, .slice U samples.length cU] 158)) 180 [cz, cz, cz, cz]
    rw [show (w.alloc (.cells #[.int .i64 gain, .int .i64 limit, .slice A samples.length cA, .slice G ng c, .slice U samples.length cU] 158)).heap.size = w.heap.size + 1 from by simp] at h0
    refine Blk.below (B := w.heap.size + 2) h0 ?_ (by omega)
    exact (Below.refl _ _).alloc (by simp) _
  have hC : Blk W (w.heap.size + 2) 180 [cz, cz, cz, cz] := by
    rw [← hW]
    have h0 := Blk.new ((w.alloc (.cells #[.int .i64 gain, .int .i64 limit, .slice A samples.length cA, .slice G ng c, .slice U samples.length cU] 158)).alloc (.cells #[cz, cz, cz, cz] 180)) 180 [cz, cz, cz, cz]
    rw [show ((w.alloc (.cells #[.int .i64 gain, .int .i64 limit, .slice A samples.length cA, .slice G ng c, .slice U samples.length cU] 158)).alloc (.cells #[cz, cz, cz, cz] 180)).heap.size = w.heap.size + 2 from by simp] at h0
    exact h0
  rw [hW]
  clear hW
  obtain ⟨p, hp⟩ : ∃ p, w.heap.size + 1 = p := ⟨_, rfl⟩
  obtain ⟨q, hq⟩ : ∃ q, p + 1 = q := ⟨_, rfl⟩
  have hqe : w.heap.size + 2 = q := by omega
  rw [hp] at hR ⊢
  rw [hqe] at hC
  rw [hq]
  have c2 := hX.cell 2
  have c4 := hX.cell 4
  simp only [List.getElem?_cons_zero, List.getElem?_cons_succ] at c2 c4
  go_wp2
  go_loopw [8] (fun i wr => ∃ k : Nat, k ≤ 4 ∧ i = .int .i64 k ∧ Below q W wr ∧ ∃ cs : List Value, cs.length = 4 ∧ Blk wr q 180 cs ∧
    Hid (∀ j, j < k → us.getD (first + j) false = true ∧ ∃ v, cs[j]? = some v ∧ CI v (samples.getD (first + j) (0, 0)))) (fun i _ => 4 - (intOf i).toNat)
  case atStart => exact ⟨0, by omega, rfl, Below.refl _ _, [cz, cz, cz, cz], rfl, hC, fun j h => absurd h (by omega)⟩
  case round =>
    obtain ⟨k, hk, rfl, hbr, cs, hcs, hCr, hst⟩ := hrel
    have hbw : Below w.heap.size w wr := tr hB hbr (by omega)
    have b2 := (hbr.cell (p := ⟨w.heap.size, 2, none⟩) (by show w.heap.size < q; omega)).trans c2
    have b4 := (hbr.cell (p := ⟨w.heap.size, 4, none⟩) (by show w.heap.size < q; omega)).trans c4
    by_cases hlt4 : k < 4
    · obtain ⟨bU, offU, rfl, hbU, zu⟩ := (hu.bel hbw).b_at (k := first + k) (by omega)
      have hgd : us.getD (first + k) false = us[first + k] := by simp [List.getD, show first + k < us.length from by omega]
      by_cases hus : us[first + k] = true
      · rw [hus] at zu hgd
        obtain ⟨bA, offA, rfl, hbA, z1, z2⟩ := (hs.bel hbw).g_at (k := first + k) (by omega)
        have hgs : samples.getD (first + k) (0, 0) = samples[first + k] := by simp [List.getD, show first + k < samples.length from by omega]
        have hle := HB.out _ (List.getElem_mem (show first + k < samples.length by omega))
        generalize samples[first + k] = smp at z1 z2 hgs hle
        obtain ⟨sa, sb⟩ := smp
        obtain ⟨l1, l2, l3, l4⟩ := hle
        dsimp only at z1 z2 l1 l2 l3 l4
        have hck : ∃ v, cs[k]? = some v := ⟨_, List.getElem?_eq_getElem (by omega)⟩
        obtain ⟨vk, hvk⟩ := hck
        go_wp2_with (first | (go_at_call 145; refine (number_c sa sb _ (by omega) (by omega)).mono ?_; rintro e w3 ⟨⟨vn, rfl, xn, yn, rfl, fxn, fyn⟩, hb3⟩; have hC3 := hCr.bel hb3; have zf3 := hC3.frozen k; have zc3 := (hC3.cell k).trans hvk))
        go_roundw
        case rel =>
          have hqr := hCr.lt
          refine ⟨k + 1, by omega, by go_num, (hbr.trans (hb3.mono (by omega))).setCell (Nat.le_refl _) _, cs.set k (.complex .f64 xn yn), by simp [hcs], hC3.set_ k _, fun j hj => ?_⟩
          rcases Nat.lt_succ_iff_lt_or_eq.1 hj with h | rfl
          · obtain ⟨s1, v, s2, s3⟩ := hst.out j h
            exact ⟨s1, v, by rw [List.getElem?_set_ne (by omega)]; exact s2, s3⟩
          · exact ⟨hgd, .complex .f64 xn yn, by rw [List.getElem?_set_self (by omega)], by rw [hgs]; exact ⟨xn, yn, rfl, fxn, fyn⟩⟩
        case measure => simp [intOf]; omega
      · have hus' : us[first + k] = false := by simpa using hus
        rw [hus'] at zu hgd
        have HAU : Hid (allU us first = false) := by
          rw [Hid]
          cases h : allU us first
          · rfl
          · rw [allU_iff.1 h k hlt4] at hgd; cases hgd
        clear hus hgd
        have hRr : Blk wr p 180 [cz, cz, cz, cz] := hR.below hbr (by omega)
        have d0 := hRr.cell 0
        have d1 := hRr.cell 1
        have d2 := hRr.cell 2
        have d3 := hRr.cell 3
        simp only [List.getElem?_cons_zero, List.getElem?_cons_succ] at d0 d1 d2 d3
        have k0 := hRr.frozen 0
        have k1 := hRr.frozen 1
        have k2 := hRr.frozen 2
        have k3 := hRr.frozen 3
        go_wp2
        obtain ⟨WE, hWE⟩ : ∃ WE, (((wr.setCell ⟨p, 0, none⟩ (.complex .f64 0 0)).setCell ⟨p, 1, none⟩ (.complex .f64 0 0)).setCell ⟨p, 2, none⟩ (.complex .f64 0 0)).setCell ⟨p, 3, none⟩ (.complex .f64 0 0) = WE := ⟨_, rfl⟩
        rw [hWE]
        have hE : Blk WE p 180 [cz, cz, cz, cz] := by
          rw [← hWE]; exact (((hRr.set_ 0 _).set_ 1 _).set_ 2 _).set_ 3 _
        have hBE : Below w.heap.size w WE := by
          rw [← hWE]
          exact (((hbw.setCell (by show w.heap.size ≤ p; omega) _).setCell (by show w.heap.size ≤ p; omega) _).setCell (by show w.heap.size ≤ p; omega) _).setCell (by show w.heap.size ≤ p; omega) _
        have g0 := hE.cell 0
        have g1 := hE.cell 1
        have g2 := hE.cell 2
        have g3 := hE.cell 3
        simp only [List.getElem?_cons_zero, List.getElem?_cons_succ] at g0 g1 g2 g3
        clear hWE
        try simp only [Exit.inBlock, Exit.then]
        refine bodyPost_ret (by simp [results, Tryd.results149, go_sem, g0, g1, g2, g3]; try rfl) rfl ?_
        exact ⟨.inr ⟨HAU.out, rfl⟩, hBE⟩
    · obtain rfl : k = 4 := by omega
      obtain ⟨a0, a1, a2, a3, rfl⟩ : ∃ a0 a1 a2 a3, cs = [a0, a1, a2, a3] := by
        match cs, hcs with
        | [a0, a1, a2, a3], _ => exact ⟨a0, a1, a2, a3, rfl⟩
      obtain ⟨x0, y0, rfl, fx0, fy0⟩ : CI a0 (samples.getD (first + 0) (0, 0)) := by
        obtain ⟨_, v, h1, h2⟩ := hst.out 0 (by omega)
        cases h1; exact h2
      obtain ⟨x1, y1, rfl, fx1, fy1⟩ : CI a1 (samples.getD (first + 1) (0, 0)) := by
        obtain ⟨_, v, h1, h2⟩ := hst.out 1 (by omega)
        cases h1; exact h2
      obtain ⟨x2, y2, rfl, fx2, fy2⟩ : CI a2 (samples.getD (first + 2) (0, 0)) := by
        obtain ⟨_, v, h1, h2⟩ := hst.out 2 (by omega)
        cases h1; exact h2
      obtain ⟨x3, y3, rfl, fx3, fy3⟩ : CI a3 (samples.getD (first + 3) (0, 0)) := by
        obtain ⟨_, v, h1, h2⟩ := hst.out 3 (by omega)
        cases h1; exact h2
      have u0 := hCr.cell 0
      have u1 := hCr.cell 1
      have u2 := hCr.cell 2
      have u3 := hCr.cell 3
      simp only [List.getElem?_cons_zero, List.getElem?_cons_succ] at u0 u1 u2 u3
      have hRr : Blk wr p 180 [cz, cz, cz, cz] := hR.below hbr (by omega)
      have d0 := hRr.cell 0
      have d1 := hRr.cell 1
      have d2 := hRr.cell 2
      have d3 := hRr.cell 3
      simp only [List.getElem?_cons_zero, List.getElem?_cons_succ] at d0 d1 d2 d3
      have k0 := hRr.frozen 0
      have k1 := hRr.frozen 1
      have k2 := hRr.frozen 2
      have k3 := hRr.frozen 3
      go_wp2
      obtain ⟨WE, hWE⟩ : ∃ WE, (((wr.setCell ⟨p, 0, none⟩ (.complex .f64 x0 y0)).setCell ⟨p, 1, none⟩ (.complex .f64 x1 y1)).setCell ⟨p, 2, none⟩ (.complex .f64 x2 y2)).setCell ⟨p, 3, none⟩ (.complex .f64 x3 y3) = WE := ⟨_, rfl⟩
      rw [hWE]
      have hE : Blk WE p 180 [.complex .f64 x0 y0, .complex .f64 x1 y1, .complex .f64 x2 y2, .complex .f64 x3 y3] := by
        rw [← hWE]; exact (((hRr.set_ 0 _).set_ 1 _).set_ 2 _).set_ 3 _
      have hBE : Below w.heap.size w WE := by
        rw [← hWE]
        exact (((hbw.setCell (by show w.heap.size ≤ p; omega) _).setCell (by show w.heap.size ≤ p; omega) _).setCell (by show w.heap.size ≤ p; omega) _).setCell (by show w.heap.size ≤ p; omega) _
      have g0 := hE.cell 0
      have g1 := hE.cell 1
      have g2 := hE.cell 2
      have g3 := hE.cell 3
      simp only [List.getElem?_cons_zero, List.getElem?_cons_succ] at g0 g1 g2 g3
      clear hWE
      try simp only [Exit.inBlock, Exit.then]
      refine bodyPost_ret (by simp [results, Tryd.results149, go_sem, g0, g1, g2, g3]; try rfl) rfl ?_
      exact ⟨.inl ⟨allU_iff.2 fun j hj => (hst.out j hj).1, _, _, _, _, rfl, ⟨x0, y0, rfl, fx0, fy0⟩, ⟨x1, y1, rfl, fx1, fy1⟩, ⟨x2, y2, rfl, fx2, fy2⟩, ⟨x3, y3, rfl, fx3, fy3⟩⟩, hBE⟩
end Go.Proofs.YtmedjedmeggbpaaDoor
