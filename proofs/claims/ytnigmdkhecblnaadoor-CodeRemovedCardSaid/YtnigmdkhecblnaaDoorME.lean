/- A group of texts (tools/groups.txt): W16 W17 W18 W19 W20 W21 W22. No condition but those that each says. -/
import Derived.Test.YtnigmdkhecblnaaDoorMD
import Derived.Test.YtnigmdkhecblnaaDoorMB
set_option linter.unusedSimpArgs false
set_option linter.unusedVariables false
/- Contracts: lines of frames. -/
namespace Go.Proofs.YtnigmdkhecblnaaDoor
open Go.RowKit
set_option maxRecDepth 100000
attribute [local go_sem] run_store_complex

section
variable {w wx w1 : World} {n : Nat} {p0 p1 p2 p3 p4 p5 p6 : Addr} {v0 v1 v2 v3 v4 v5 v6 : Value}
theorem hold7_bel (h : wx.cell? p0 = some v0 ∧ wx.cell? p1 = some v1 ∧ wx.cell? p2 = some v2 ∧ wx.cell? p3 = some v3 ∧ wx.cell? p4 = some v4 ∧ wx.cell? p5 = some v5 ∧ wx.cell? p6 = some v6 ∧ Below n w wx) (hb : Below wx.heap.size wx w1) (hB : n ≤ wx.heap.size) :
    w1.cell? p0 = some v0 ∧ w1.cell? p1 = some v1 ∧ w1.cell? p2 = some v2 ∧ w1.cell? p3 = some v3 ∧ w1.cell? p4 = some v4 ∧ w1.cell? p5 = some v5 ∧ w1.cell? p6 = some v6 ∧ Below n w w1 := by
  obtain ⟨h0, h1, h2, h3, h4, h5, h6, hX⟩ := h
  exact ⟨(hb.cell (World.block_lt_of_cell? _ _ h0)).trans h0, (hb.cell (World.block_lt_of_cell? _ _ h1)).trans h1, (hb.cell (World.block_lt_of_cell? _ _ h2)).trans h2, (hb.cell (World.block_lt_of_cell? _ _ h3)).trans h3, (hb.cell (World.block_lt_of_cell? _ _ h4)).trans h4, (hb.cell (World.block_lt_of_cell? _ _ h5)).trans h5, (hb.cell (World.block_lt_of_cell? _ _ h6)).trans h6, hX.trans (hb.mono hB)⟩
theorem hold7_drew (h : wx.cell? p0 = some v0 ∧ wx.cell? p1 = some v1 ∧ wx.cell? p2 = some v2 ∧ wx.cell? p3 = some v3 ∧ wx.cell? p4 = some v4 ∧ wx.cell? p5 = some v5 ∧ wx.cell? p6 = some v6 ∧ Below n w wx) :
    wx.drew.cell? p0 = some v0 ∧ wx.drew.cell? p1 = some v1 ∧ wx.drew.cell? p2 = some v2 ∧ wx.drew.cell? p3 = some v3 ∧ wx.drew.cell? p4 = some v4 ∧ wx.drew.cell? p5 = some v5 ∧ wx.drew.cell? p6 = some v6 ∧ Below n w wx.drew := by
  obtain ⟨h0, h1, h2, h3, h4, h5, h6, hX⟩ := h
  exact ⟨h0, h1, h2, h3, h4, h5, h6, hX.drew⟩
theorem hold7_set {q : Addr} {u : Value} (h : wx.cell? p0 = some v0 ∧ wx.cell? p1 = some v1 ∧ wx.cell? p2 = some v2 ∧ wx.cell? p3 = some v3 ∧ wx.cell? p4 = some v4 ∧ wx.cell? p5 = some v5 ∧ wx.cell? p6 = some v6 ∧ Below n w wx) (n0 : p0.block ≠ q.block) (n1 : p1.block ≠ q.block) (n2 : p2.block ≠ q.block) (n3 : p3.block ≠ q.block) (n4 : p4.block ≠ q.block) (n5 : p5.block ≠ q.block) (n6 : p6.block ≠ q.block) (hq : n ≤ q.block) :
    (wx.setCell q u).cell? p0 = some v0 ∧ (wx.setCell q u).cell? p1 = some v1 ∧ (wx.setCell q u).cell? p2 = some v2 ∧ (wx.setCell q u).cell? p3 = some v3 ∧ (wx.setCell q u).cell? p4 = some v4 ∧ (wx.setCell q u).cell? p5 = some v5 ∧ (wx.setCell q u).cell? p6 = some v6 ∧ Below n w (wx.setCell q u) := by
  obtain ⟨h0, h1, h2, h3, h4, h5, h6, hX⟩ := h
  exact ⟨(World.cell?_of_block (Below.heap_setCell wx q u _ n0)).trans h0, (World.cell?_of_block (Below.heap_setCell wx q u _ n1)).trans h1, (World.cell?_of_block (Below.heap_setCell wx q u _ n2)).trans h2, (World.cell?_of_block (Below.heap_setCell wx q u _ n3)).trans h3, (World.cell?_of_block (Below.heap_setCell wx q u _ n4)).trans h4, (World.cell?_of_block (Below.heap_setCell wx q u _ n5)).trans h5, (World.cell?_of_block (Below.heap_setCell wx q u _ n6)).trans h6, hX.setCell hq u⟩
end

/-- The error of what is compressed. -/
def compE (gain limit : Int) (samples : List (Int × Int)) (gaps : List Int) (wave : List (Int × Int)) : Int := firstE [(frameE gain limit samples gaps).2, waveErr wave, errIf (decide (samples.length < wave.length)) 10]
theorem compE_zero {gain limit : Int} {samples wave : List (Int × Int)} {gaps : List Int} (h : compE gain limit samples gaps wave = 0) : (frameE gain limit samples gaps).2 = 0 ∧ waveErr wave = 0 ∧ wave.length ≤ samples.length := by
  unfold compE firstE at h
  by_cases h1 : (frameE gain limit samples gaps).2 = 0
  · rw [if_pos h1] at h
    unfold firstE at h
    by_cases h2 : waveErr wave = 0
    · rw [if_pos h2] at h
      refine ⟨h1, h2, ?_⟩
      by_cases h3 : samples.length < wave.length
      · rw [decide_eq_true h3] at h; simp [firstE, errIf] at h
      · omega
    · rw [if_neg h2] at h; exact absurd h h2
  · rw [if_neg h1] at h; exact absurd h h1

theorem checked_any (gain limit : Int) (A G : Option Addr) (cA c : Nat) (samples : List (Int × Int)) (gaps : List Int) (w : World) (hs : Rd w A (gs samples)) (hr : Rd w G (ints gaps)) (hn : samples.length ≤ 1000) (hg : gaps.length ≤ 1000) :
    Calls Tryd.prog 38 #[.agg #[.int .i64 gain, .int .i64 limit, .slice A samples.length cA, .slice G gaps.length c]] w fun r w' =>
      (∃ a b A2 n2 c2 G2 n3 c3 U2 n4 c4, r = .returned (.tuple #[.agg #[.int .i64 a, .int .i64 b, .slice A2 n2 c2, .slice G2 n3 c3, .slice U2 n4 c4], .int .i64 (frameE gain limit samples gaps).2])) ∧ Below w.heap.size w w' :=
  (checked_c gain limit A G cA c samples gaps w hs hr hn hg).mono fun r w' ⟨h, hb⟩ => by
    refine ⟨?_, hb⟩
    rcases h with ⟨_, rfl⟩ | ⟨h0, U, cU, rfl, _⟩
    · exact ⟨_, _, _, _, _, _, _, _, _, _, _, rfl⟩
    · rw [h0]; exact ⟨_, _, _, _, _, _, _, _, _, _, _, rfl⟩
theorem checked_ok (gain limit : Int) (A G : Option Addr) (cA c : Nat) (samples : List (Int × Int)) (gaps : List Int) (w : World) (hs : Rd w A (gs samples)) (hr : Rd w G (ints gaps)) (hn : samples.length ≤ 1000) (hg : gaps.length ≤ 1000) (h0 : (frameE gain limit samples gaps).2 = 0) :
    Calls Tryd.prog 38 #[.agg #[.int .i64 gain, .int .i64 limit, .slice A samples.length cA, .slice G gaps.length c]] w fun r w' =>
      (∃ U cU, r = .returned (.tuple #[.agg #[.int .i64 gain, .int .i64 limit, .slice A samples.length cA, .slice G gaps.length c, .slice U samples.length cU], .int .i64 0]) ∧ Rd w' U (bls (usableL limit samples gaps))) ∧ Below w.heap.size w w' :=
  (checked_c gain limit A G cA c samples gaps w hs hr hn hg).mono fun r w' ⟨h, hb⟩ => by
    refine ⟨?_, hb⟩
    rcases h with ⟨h, _⟩ | ⟨_, U, cU, h1, h2⟩
    · exact absurd h0 h
    · exact ⟨U, cU, h1, h2.1⟩

theorem checked_okT (gain limit : Int) (A G : Option Addr) (cA c : Nat) (samples : List (Int × Int)) (gaps : List Int) (w : World) (hs : Rd w A (gs samples)) (hr : Rd w G (ints gaps)) (hn : samples.length ≤ 1000) (hg : gaps.length ≤ 1000) (h0 : (frameE gain limit samples gaps).2 = 0) :
    Calls Tryd.prog 38 #[.agg #[.int .i64 gain, .int .i64 limit, .slice A samples.length cA, .slice G gaps.length c]] w fun r w' =>
      (∃ U cU, r = .returned (.tuple #[.agg #[.int .i64 gain, .int .i64 limit, .slice A samples.length cA, .slice G gaps.length c, .slice U samples.length cU], .int .i64 0]) ∧ RdT w' 4 U (bls (usableL limit samples gaps))) ∧ Below w.heap.size w w' :=
  (checked_c gain limit A G cA c samples gaps w hs hr hn hg).mono fun r w' ⟨h, hb⟩ => by
    refine ⟨?_, hb⟩
    rcases h with ⟨h, _⟩ | ⟨_, U, cU, h1, h2⟩
    · exact absurd h0 h
    · exact ⟨U, cU, h1, h2⟩

def compV (us : List Bool) (samples wave : List (Int × Int)) (n : Nat) : List (Int × Int) := (List.range n).map fun lag => compS us samples wave lag wave.length
def compMs (us : List Bool) (wave : List (Int × Int)) (n : Nat) : List Int := (List.range n).map fun lag => (compM us lag wave.length : Int)

theorem compressed_err (gain limit : Int) (A G B : Option Addr) (cA c cB : Nat) (samples wave : List (Int × Int)) (gaps : List Int) (w : World) (hT : Tab w) (hs : Rd w A (gs samples)) (hr : Rd w G (ints gaps)) (hv : Rd w B (gs wave)) (hn : samples.length ≤ 1000) (hg : gaps.length ≤ 1000) (hw : wave.length ≤ 1000)
    (hE : compE gain limit samples gaps wave ≠ 0) :
    Calls Tryd.prog 34 #[.agg #[.int .i64 gain, .int .i64 limit, .slice A samples.length cA, .slice G gaps.length c], .slice B wave.length cB] w fun r w' =>
      r = .returned (.tuple #[.agg #[.slice none 0 0, .slice none 0 0], .int .i64 (compE gain limit samples gaps wave)]) ∧ Below w.heap.size w w' := by
  have e1 : (compE gain limit samples gaps wave != 0) = true := by simpa using hE
  clear hE
  go_enter Tryd.func34, Tryd.ntmps34
  go_upto_region 1 with fail
  obtain ⟨W, hW⟩ : ∃ W, (w.alloc (.cells #[.int .i64 gain, .int .i64 limit, .slice A samples.length cA, .slice G gaps.length c] 25)).alloc (.cells #[.slice none 0 0, .slice none 0 0] 73) = W := ⟨_, rfl⟩
  have hsz : W.heap.size = w.heap.size + 2 := by rw [← hW]; simp
  have hB : Below w.heap.size w W := by rw [← hW]; exact ((Below.refl _ _).alloc (Nat.le_refl _) _).alloc (by simp) _
  have hX : Blk W w.heap.size 25 [.int .i64 gain, .int .i64 limit, .slice A samples.length cA, .slice G gaps.length c] := by
    rw [← hW]
    refine Blk.below (B := w.heap.size + 1) (Blk.new w _ [_, _, _, _]) ?_ (by omega)
    exact (Below.refl _ _).alloc (by simp) _
  have hR : Blk W (w.heap.size + 1) 73 [.slice none 0 0, .slice none 0 0] := by
    rw [← hW]
    have h0 := Blk.new (w.alloc (.cells #[.int .i64 gain, .int .i64 limit, .slice A samples.length cA, .slice G gaps.length c] 25)) 73 [.slice none 0 0, .slice none 0 0]
    rw [show (w.alloc (.cells #[.int .i64 gain, .int .i64 limit, .slice A samples.length cA, .slice G gaps.length c] 25)).heap.size = w.heap.size + 1 from by simp] at h0
    exact h0
  rw [hW]
  clear hW
  obtain ⟨p, hp⟩ : ∃ p, w.heap.size + 1 = p := ⟨_, rfl⟩
  rw [hp] at hR ⊢
  have c0 := hX.cell 0
  have c1 := hX.cell 1
  have c2 := hX.cell 2
  have c3 := hX.cell 3
  simp only [List.getElem?_cons_zero, List.getElem?_cons_succ] at c0 c1 c2 c3
  go_upto_region 2 with (first | (go_at_call 38; refine (checked_any gain limit A G cA c samples gaps _ (hs.bel hB) (hr.bel hB) hn hg).mono ?_; rintro e w1 ⟨⟨a1, b1, A2, n2, c2', G2, n3, c3', U2, n4, c4', rfl⟩, hb1⟩))
  generalize hV : w1.alloc (.cells #[.int .i64 a1, .int .i64 b1, .slice A2 n2 c2', .slice G2 n3 c3', .slice U2 n4 c4'] 81) = V
  have hBV : Below W.heap.size W V := by rw [← hV]; exact hb1.alloc hb1.size _
  have HS : Hid (V.cell? ⟨w.heap.size, 2, none⟩ = some (.slice A samples.length cA) ∧ Below W.heap.size W V) := ⟨(hBV.cell (p := ⟨w.heap.size, 2, none⟩) (by show w.heap.size < W.heap.size; omega)).trans c2, hBV⟩
  have hz0 : W.heap.size ≤ V.drew.heap.size := hBV.size
  have hwr : Rd V.drew B (gs wave) := (hv.bel hB).bel hBV.drew
  have hTV : Tab V.drew := (hT.bel hB).bel hBV.drew
  have HK := hide hR
  have HF : Hid (firstE [(frameE gain limit samples gaps).2, waveErr wave, errIf (decide (samples.length < wave.length)) 10] = compE gain limit samples gaps wave) := rfl
  clear hV c0 c1 c2 c3 hR hX
  generalize (frameE gain limit samples gaps).2 = fe at HF
  go_region_held3 (fun w' => w'.cell? ⟨w.heap.size, 2, none⟩ = some (.slice A samples.length cA) ∧ Below W.heap.size W w')
    (first | exact held_drew HS.out | exact held_bel (held_drew HS.out) hb2 hz0 | exact held_alloc (held_bel (held_drew HS.out) hb2 hz0) (Nat.le_trans hz0 hb2.size) _)
    (first
      | (go_at_call 62; refine (waveError_c wave B cB _ hTV hwr hw).mono ?_; rintro e w2 ⟨rfl, hb2⟩) | (go_at_call 41; refine (errorIf_c _ _ _).mono ?_; rintro e_ w_ ⟨rfl, rfl⟩) | (go_at_call 60; refine (outside_c _ _ _ _).mono ?_; rintro e_ w_ ⟨rfl, rfl⟩) | (go_at_call 39; refine (firstError_3 _ _ _ _).mono ?_; rintro e_ w_ ⟨rfl, rfl⟩))
  have hF := held_alloc (held_bel (held_drew HS.out) hb2 hz0) (Nat.le_trans hz0 hb2.size) (.cells #[.int .i64 fe, .int .i64 (waveErr wave), .int .i64 (errIf (decide (samples.length < wave.length)) 10)] 28)
  obtain ⟨V2, hV2⟩ : ∃ V2, w2.alloc (.cells #[.int .i64 fe, .int .i64 (waveErr wave), .int .i64 (errIf (decide (samples.length < wave.length)) 10)] 28) = V2 := ⟨_, rfl⟩
  rw [hV2] at hF ⊢
  have hBF := hF.2
  have hRf : Blk V2 p 73 _ := HK.out.below hBF (by omega)
  clear hV2 hF
  rw [HF.out]
  have d0 := hRf.cell 0
  have d1 := hRf.cell 1
  simp only [List.getElem?_cons_zero, List.getElem?_cons_succ] at d0 d1
  have k0 := hRf.frozen 0
  have k1 := hRf.frozen 1
  go_wp2
  obtain ⟨WE, hWE⟩ : ∃ WE, (V2.setCell ⟨p, 0, none⟩ (.slice none 0 0)).setCell ⟨p, 1, none⟩ (.slice none 0 0) = WE := ⟨_, rfl⟩
  rw [hWE]
  have hE : Blk WE p 73 [.slice none 0 0, .slice none 0 0] := by rw [← hWE]; exact (hRf.set_ 0 _).set_ 1 _
  have hBE : Below w.heap.size w WE := by
    have hX : Below w.heap.size w V2 := tr hB hBF (by omega)
    rw [← hWE]
    exact (hX.setCell (by show w.heap.size ≤ p; omega) _).setCell (by show w.heap.size ≤ p; omega) _
  have g0 := hE.cell 0
  have g1 := hE.cell 1
  simp only [List.getElem?_cons_zero, List.getElem?_cons_succ] at g0 g1
  clear hWE
  try simp only [Exit.inBlock, Exit.then]
  refine bodyPost_ret (by simp [results, Tryd.results34, go_sem, g0, g1]; try rfl) rfl ?_
  exact ⟨rfl, hBE⟩
end Go.Proofs.YtnigmdkhecblnaaDoor

/- Contracts: the line of a valid frame with a wave. -/
namespace Go.Proofs.YtnigmdkhecblnaaDoor
open Go.RowKit
set_option maxRecDepth 100000

theorem compressed_ok (gain limit : Int) (A G B : Option Addr) (cA c cB : Nat) (samples wave : List (Int × Int)) (gaps : List Int) (w : World) (hT : Tab w) (hs : Rd w A (gs samples)) (hr : Rd w G (ints gaps)) (hv : Rd w B (gs wave)) (hn : samples.length ≤ 1000) (hg : gaps.length ≤ 1000) (hw : wave.length ≤ 1000)
    (hE : compE gain limit samples gaps wave = 0) :
    Calls Tryd.prog 34 #[.agg #[.int .i64 gain, .int .i64 limit, .slice A samples.length cA, .slice G gaps.length c], .slice B wave.length cB] w fun r w' =>
      (∃ V M : Option Addr, r = .returned (.tuple #[.agg #[.slice V (samples.length - wave.length + 1) (samples.length - wave.length + 1), .slice M (samples.length - wave.length + 1) (samples.length - wave.length + 1)], .int .i64 0]) ∧
        Rd w' V (gs (compV (usableL limit samples gaps) samples wave (samples.length - wave.length + 1))) ∧ Rd w' M (ints (compMs (usableL limit samples gaps) wave (samples.length - wave.length + 1)))) ∧ Below w.heap.size w w' := by
  obtain ⟨hF0, hW0, hle⟩ := compE_zero hE
  obtain ⟨hw1, hw2, hpow⟩ := waveErr_zero hW0
  obtain ⟨hh, hsamp, _⟩ := frameE_zero hF0
  have HPW := hide hpow
  have HSM : Hid (∀ g ∈ samples, gle 2000000 g) := by
    obtain ⟨_, _, l1, l2, _, _⟩ := headE_zero hh
    intro g hgm
    have := hsamp g hgm
    simp only [gle]
    omega
  obtain ⟨N, hN⟩ : ∃ N, samples.length - wave.length + 1 = N := ⟨_, rfl⟩
  rw [hN]
  have e1 : (compE gain limit samples gaps wave != 0) = false := by simpa using hE
  have HE := hide hE
  have HF0 := hide hF0
  clear hE hpow hsamp hh hW0 hF0
  go_enter Tryd.func34, Tryd.ntmps34
  go_upto_region 1 with fail
  obtain ⟨W, hW⟩ : ∃ W, (w.alloc (.cells #[.int .i64 gain, .int .i64 limit, .slice A samples.length cA, .slice G gaps.length c] 25)).alloc (.cells #[.slice none 0 0, .slice none 0 0] 73) = W := ⟨_, rfl⟩
  have hsz : W.heap.size = w.heap.size + 2 := by rw [← hW]; simp
  have hB : Below w.heap.size w W := by rw [← hW]; exact ((Below.refl _ _).alloc (Nat.le_refl _) _).alloc (by simp) _
  have hX : Blk W w.heap.size 25 [.int .i64 gain, .int .i64 limit, .slice A samples.length cA, .slice G gaps.length c] := by
    rw [← hW]
    refine Blk.below (B := w.heap.size + 1) (Blk.new w _ [_, _, _, _]) ?_ (by omega)
    exact (Below.refl _ _).alloc (by simp) _
  have hR : Blk W (w.heap.size + 1) 73 [.slice none 0 0, .slice none 0 0] := by
    rw [← hW]
    have h0 := Blk.new (w.alloc (.cells #[.int .i64 gain, .int .i64 limit, .slice A samples.length cA, .slice G gaps.length c] 25)) 73 [.slice none 0 0, .slice none 0 0]
    rw [show (w.alloc (.cells #[.int .i64 gain, .int .i64 limit, .slice A samples.length cA, .slice G gaps.length c] 25)).heap.size = w.heap.size + 1 from by simp] at h0
    exact h0
  rw [hW]
  clear hW
  obtain ⟨p, hp⟩ : ∃ p, w.heap.size + 1 = p := ⟨_, rfl⟩
  rw [hp] at hR ⊢
  have c0 := hX.cell 0
  have c1 := hX.cell 1
  have c2 := hX.cell 2
  have c3 := hX.cell 3
  simp only [List.getElem?_cons_zero, List.getElem?_cons_succ] at c0 c1 c2 c3
  go_upto_region 2 with (first | (go_at_call 38; refine (checked_ok gain limit A G cA c samples gaps _ (hs.bel hB) (hr.bel hB) hn hg HF0.out).mono ?_; rintro e w1 ⟨⟨U, cU, rfl, hU⟩, hb1⟩))
  generalize hV : w1.alloc (.cells #[.int .i64 gain, .int .i64 limit, .slice A samples.length cA, .slice G gaps.length c, .slice U samples.length cU] 81) = V
  have hBV1 : Below w1.heap.size w1 V := by rw [← hV]; exact (Below.refl _ _).alloc (Nat.le_refl _) _
  have hBV : Below W.heap.size W V := by rw [← hV]; exact hb1.alloc hb1.size _
  have hCV : Blk V w1.heap.size 81 [.int .i64 gain, .int .i64 limit, .slice A samples.length cA, .slice G gaps.length c, .slice U samples.length cU] := by rw [← hV]; exact Blk.new w1 _ [_, _, _, _, _]
  have HS : Hid (V.cell? ⟨w.heap.size, 2, none⟩ = some (.slice A samples.length cA) ∧ Below V.heap.size V V) := ⟨(hBV.cell (p := ⟨w.heap.size, 2, none⟩) (by show w.heap.size < W.heap.size; omega)).trans c2, Below.refl _ _⟩
  have hz0 : V.heap.size ≤ V.drew.heap.size := Nat.le_refl _
  have hwr : Rd V.drew B (gs wave) := (hv.bel hB).bel hBV.drew
  have hTV : Tab V.drew := (hT.bel hB).bel hBV.drew
  have HK := hide hR
  have HUV := hide (hU.bel hBV1)
  have HF : Hid (firstE [0, waveErr wave, errIf (decide (samples.length < wave.length)) 10] = compE gain limit samples gaps wave) := by
    show _ = _
    rw [← HF0.out]; rfl
  clear hV c0 c1 c2 c3 hR hX hU
  go_region_held3 (fun w' => w'.cell? ⟨w.heap.size, 2, none⟩ = some (.slice A samples.length cA) ∧ Below V.heap.size V w')
    (first | exact held_drew HS.out | exact held_bel (held_drew HS.out) hb2 hz0 | exact held_alloc (held_bel (held_drew HS.out) hb2 hz0) (Nat.le_trans hz0 hb2.size) _)
    (first
      | (go_at_call 62; refine (waveError_c wave B cB _ hTV hwr hw).mono ?_; rintro e w2 ⟨rfl, hb2⟩) | (go_at_call 41; refine (errorIf_c _ _ _).mono ?_; rintro e_ w_ ⟨rfl, rfl⟩) | (go_at_call 60; refine (outside_c _ _ _ _).mono ?_; rintro e_ w_ ⟨rfl, rfl⟩) | (go_at_call 39; refine (firstError_3 _ _ _ _).mono ?_; rintro e_ w_ ⟨rfl, rfl⟩))
  have hF := held_alloc (held_bel (held_drew HS.out) hb2 hz0) (Nat.le_trans hz0 hb2.size) (.cells #[.int .i64 0, .int .i64 (waveErr wave), .int .i64 (errIf (decide (samples.length < wave.length)) 10)] 28)
  obtain ⟨V2, hV2⟩ : ∃ V2, w2.alloc (.cells #[.int .i64 0, .int .i64 (waveErr wave), .int .i64 (errIf (decide (samples.length < wave.length)) 10)] 28) = V2 := ⟨_, rfl⟩
  rw [hV2] at hF ⊢
  have hBF := hF.2
  clear hV2 hF
  rw [HF.out]
  have hC2 := hCV.bel hBF
  have m2 := hC2.cell 2
  simp only [List.getElem?_cons_zero, List.getElem?_cons_succ] at m2
  have hNi : (samples.length : Int) - (wave.length : Int) + 1 = (N : Int) := by omega
  have hN1 : N ≤ 1000 := by omega
  have hV2n : V.heap.size ≤ V2.heap.size := hBF.size
  have hcl : w1.heap.size < V2.heap.size := hC2.lt
  have hW2 : Below W.heap.size W V2 := tr hBV hBF hBV.size
  go_upto_region 6 with (first | (go_at_call 63; refine (newLine_c N _ hN1).mono ?_; rintro e w3 ⟨a, b, rfl, hab, ha, hb, hBa, hBb, hb3⟩))
  obtain ⟨V4, hV4⟩ : ∃ V4, w3.alloc (.cells #[.slice (some ⟨a, 0, none⟩) N N, .slice (some ⟨b, 0, none⟩) N N] 73) = V4 := ⟨_, rfl⟩
  rw [hV4]
  have hB34 : Below w3.heap.size w3 V4 := by rw [← hV4]; exact (Below.refl _ _).alloc (Nat.le_refl _) _
  have hB24 : Below V2.heap.size V2 V4 := tr hb3 hB34 hb3.size
  have hL4 : Blk V4 w3.heap.size 73 [.slice (some ⟨a, 0, none⟩) N N, .slice (some ⟨b, 0, none⟩) N N] := by rw [← hV4]; exact Blk.new w3 _ [_, _]
  have hLa : w3.heap.size ≠ a := by have := hBa.lt; omega
  have hLb : w3.heap.size ≠ b := by have := hBb.lt; omega
  have hca : w1.heap.size ≠ a := by omega
  have hcb : w1.heap.size ≠ b := by omega
  have hBa4 := hBa.bel hB34
  have hBb4 := hBb.bel hB34
  obtain ⟨L, hL⟩ : ∃ L, w3.heap.size = L := ⟨_, rfl⟩
  rw [hL] at hL4 hLa hLb ⊢
  have hL2 : V2.heap.size ≤ L := by have := hb3.size; omega
  clear hV4 hBa hBb hB34
  have j0 := hL4.cell 0
  have j1 := hL4.cell 1
  simp only [List.getElem?_cons_zero, List.getElem?_cons_succ] at j0 j1
  go_wp2
  go_loopw [43] (fun i wr => ∃ k : Nat, k ≤ N ∧ i = .int .i64 k ∧ Below V2.heap.size V2 wr ∧ Blk wr L 73 [.slice (some ⟨a, 0, none⟩) N N, .slice (some ⟨b, 0, none⟩) N N] ∧
    Blk wr a 47 (gs (compV (usableL limit samples gaps) samples wave k ++ List.replicate (N - k) (0, 0))) ∧ Blk wr b 3 (ints (compMs (usableL limit samples gaps) wave k ++ List.replicate (N - k) 0))) (fun i _ => N - (intOf i).toNat)
  case atStart => exact ⟨0, by omega, rfl, hB24, hL4, by simpa [compV] using hBa4, by simpa [compMs] using hBb4⟩
  case round =>
    clear j0 j1 hBa4 hBb4 hL4 hB24
    obtain ⟨k, hk, rfl, hbr, hLr, hAr, hMr⟩ := hrel
    have hbw : Below w.heap.size w wr := tr hB (tr hW2 hbr hW2.size) hB.size
    have hVr : Below V.heap.size V wr := tr hBF hbr hBF.size
    by_cases hlt : k < N
    · have hC := hC2.bel hbr
      have hUl : (usableL limit samples gaps).length = samples.length := by simp [usableL]
      have HU := hide (HUV.out.bel hVr)
      have HSR := hide (hs.bel hbw)
      have HVR := hide (hv.bel hbw)
      have HS : Hid (wr.cell? ⟨L, 0, none⟩ = some (.slice (some ⟨a, 0, none⟩) N N) ∧ wr.cell? ⟨L, 1, none⟩ = some (.slice (some ⟨b, 0, none⟩) N N) ∧ wr.cell? ⟨w1.heap.size, 0, none⟩ = some (.int .i64 gain) ∧ wr.cell? ⟨w1.heap.size, 1, none⟩ = some (.int .i64 limit) ∧ wr.cell? ⟨w1.heap.size, 2, none⟩ = some (.slice A samples.length cA) ∧ wr.cell? ⟨w1.heap.size, 3, none⟩ = some (.slice G gaps.length c) ∧ wr.cell? ⟨w1.heap.size, 4, none⟩ = some (.slice U samples.length cU) ∧ Below V2.heap.size V2 wr) := ⟨hLr.cell 0, hLr.cell 1, hC.cell 0, hC.cell 1, hC.cell 2, hC.cell 3, hC.cell 4, hbr⟩
      have hz1 : V2.heap.size ≤ wr.drew.heap.size := hbr.size
      have HVS : Hid (compV (usableL limit samples gaps) samples wave (k + 1) ++ List.replicate (N - (k + 1)) (0, 0) = (compV (usableL limit samples gaps) samples wave k ++ List.replicate (N - k) (0, 0)).set k (compS (usableL limit samples gaps) samples wave k wave.length)) := (set_next _ _ _ _ hlt).symm
      have HMS : Hid (compMs (usableL limit samples gaps) wave (k + 1) ++ List.replicate (N - (k + 1)) 0 = (compMs (usableL limit samples gaps) wave k ++ List.replicate (N - k) 0).set k (compM (usableL limit samples gaps) k wave.length : Int)) := (set_next _ _ _ _ hlt).symm
      have hlV : (compV (usableL limit samples gaps) samples wave k ++ List.replicate (N - k) (0, 0)).length = N := by simp [compV]; omega
      have hlM : (compMs (usableL limit samples gaps) wave k ++ List.replicate (N - k) 0).length = N := by simp [compMs]; omega
      generalize compV (usableL limit samples gaps) samples wave k ++ List.replicate (N - k) (0, 0) = LV at hAr HVS hlV
      generalize compMs (usableL limit samples gaps) wave k ++ List.replicate (N - k) 0 = LM at hMr HMS hlM
      have HCA := hide (compressedAt_c gain limit A G U B cA c cU gaps.length cB samples wave (usableL limit samples gaps) k wr.drew (HSR.out.bel (Below.refl _ _).drew) (HU.out.bel (Below.refl _ _).drew) (HVR.out.bel (Below.refl _ _).drew) hUl (by omega) hn HSM.out HPW.out)
      generalize compS (usableL limit samples gaps) samples wave k wave.length = cs at HCA HVS
      generalize compM (usableL limit samples gaps) k wave.length = cm at HCA HMS
      obtain ⟨sa, sb⟩ := cs
      have HLD : Hid (Blk wr.drew L 73 [.slice (some ⟨a, 0, none⟩) N N, .slice (some ⟨b, 0, none⟩) N N]) := hLr
      have HAD : Hid (Blk wr.drew a 47 (gs LV)) := hAr
      have HMD : Hid (Blk wr.drew b 3 (ints LM)) := hMr
      have ix0 : (0 : Int) ≤ (k : Int) := by omega
      have ix1 : (k : Int) < (N : Int) := by omega
      clear hC hLr hAr hMr HU HSR HVR
      obtain ⟨gk, hgk⟩ : ∃ gk, LV[k]? = some gk := ⟨_, List.getElem?_eq_getElem (by omega)⟩
      obtain ⟨mk, hmk⟩ : ∃ mk, (ints LM)[k]? = some mk := ⟨_, List.getElem?_eq_getElem (by rw [ints_length]; omega)⟩
      go_upto_region 9 with fail
      go_region_held3 (fun w' => w'.cell? ⟨L, 0, none⟩ = some (.slice (some ⟨a, 0, none⟩) N N) ∧ w'.cell? ⟨L, 1, none⟩ = some (.slice (some ⟨b, 0, none⟩) N N) ∧ w'.cell? ⟨w1.heap.size, 0, none⟩ = some (.int .i64 gain) ∧ w'.cell? ⟨w1.heap.size, 1, none⟩ = some (.int .i64 limit) ∧ w'.cell? ⟨w1.heap.size, 2, none⟩ = some (.slice A samples.length cA) ∧ w'.cell? ⟨w1.heap.size, 3, none⟩ = some (.slice G gaps.length c) ∧ w'.cell? ⟨w1.heap.size, 4, none⟩ = some (.slice U samples.length cU) ∧ Below V2.heap.size V2 w')
        (first | with_reducible exact hold7_drew HS.out | with_reducible exact H4.out | with_reducible exact hold7_set (hold7_set H4.out hLa hLa hca hca hca hca hca ha) hLa hLa hca hca hca hca hca ha | with_reducible exact hold7_set H4.out hLb hLb hcb hcb hcb hcb hcb hb | with_reducible exact hold7_set (hold7_set (hold7_set H4.out hLa hLa hca hca hca hca hca ha) hLa hLa hca hca hca hca hca ha) hLb hLb hcb hcb hcb hcb hcb hb | with_reducible exact hold7_set (hold7_set (hold7_set H4.out hLb hLb hcb hcb hcb hcb hcb hb) hLa hLa hca hca hca hca hca ha) hLa hLa hca hca hca hca hca ha)
        (first | (go_at_call 64; refine HCA.out.mono ?_; rintro e w4 ⟨rfl, hb4⟩; have H4 := hide (hold7_bel (hold7_drew HS.out) hb4 hz1); have hA4 := HAD.out.bel hb4; have hM4 := HMD.out.bel hb4; obtain ⟨z1, z2⟩ := hA4.g_at hgk; have z3 := hA4.frozen (k * 2); have z4 := hA4.frozen (k * 2 + 1); have z5 := (hM4.cell k).trans hmk; have z6 := hM4.frozen k))
      have hL4' : Blk w4 L 73 [.slice (some ⟨a, 0, none⟩) N N, .slice (some ⟨b, 0, none⟩) N N] := HLD.out.bel hb4
      have h44 := H4.out.2.2.2.2.2.2.2
      go_wp2_with fail
      go_roundw
      case rel =>
        refine ⟨k + 1, by omega, by go_num, ((h44.setCell ha _).setCell ha _).setCell hb _, ((hL4'.far hLa _).far hLa _).far hLb _, ?_, ?_⟩
        · rw [HVS.out]
          exact (hA4.setG (g := (sa, sb)) (by omega)).far hab _
        · rw [HMS.out]
          have := ((hM4.far (p := ⟨a, k * 2, none⟩) (Ne.symm hab) (.int .i64 sa)).far (p := ⟨a, k * 2 + 1, none⟩) (Ne.symm hab) (.int .i64 sb)).set_ k (.int .i64 (cm : Int))
          rw [show (ints LM).set k (.int .i64 (cm : Int)) = ints (LM.set k (cm : Int)) from by simp [ints, List.map_set]] at this
          exact this
      case measure => simp [intOf]; omega
    · obtain rfl : k = N := by omega
      rw [Nat.sub_self, List.replicate_zero, List.append_nil] at hAr hMr
      have hWr : Below W.heap.size W wr := tr hW2 hbr hW2.size
      have hRr : Blk wr p 73 [.slice none 0 0, .slice none 0 0] := Blk.bel HK.out hWr
      have hpa : p ≠ a := by have := HK.out.lt; have := hW2.size; omega
      have hpb : p ≠ b := by have := HK.out.lt; have := hW2.size; omega
      have d0 := hRr.cell 0
      have d1 := hRr.cell 1
      have j0 := hLr.cell 0
      have j1 := hLr.cell 1
      simp only [List.getElem?_cons_zero, List.getElem?_cons_succ] at d0 d1 j0 j1
      have k0 := hRr.frozen 0
      have k1 := hRr.frozen 1
      go_wp2
      obtain ⟨WE, hWE⟩ : ∃ WE, (wr.setCell ⟨p, 0, none⟩ (.slice (some ⟨a, 0, none⟩) k k)).setCell ⟨p, 1, none⟩ (.slice (some ⟨b, 0, none⟩) k k) = WE := ⟨_, rfl⟩
      rw [hWE]
      have hE : Blk WE p 73 [.slice (some ⟨a, 0, none⟩) k k, .slice (some ⟨b, 0, none⟩) k k] := by rw [← hWE]; exact (hRr.set_ 0 _).set_ 1 _
      have hAE : Blk WE a 47 (gs (compV (usableL limit samples gaps) samples wave k)) := by rw [← hWE]; exact (hAr.far (p := ⟨p, 0, none⟩) (Ne.symm hpa) _).far (p := ⟨p, 1, none⟩) (Ne.symm hpa) _
      have hME : Blk WE b 3 (ints (compMs (usableL limit samples gaps) wave k)) := by rw [← hWE]; exact (hMr.far (p := ⟨p, 0, none⟩) (Ne.symm hpb) _).far (p := ⟨p, 1, none⟩) (Ne.symm hpb) _
      have hBE : Below w.heap.size w WE := by
        rw [← hWE]
        exact (hbw.setCell (by show w.heap.size ≤ p; omega) _).setCell (by show w.heap.size ≤ p; omega) _
      have g0 := hE.cell 0
      have g1 := hE.cell 1
      simp only [List.getElem?_cons_zero, List.getElem?_cons_succ] at g0 g1
      clear hWE
      try simp only [Exit.inBlock, Exit.then]
      refine bodyPost_ret (by simp [results, Tryd.results34, go_sem, g0, g1]; try rfl) rfl ?_
      exact ⟨⟨_, _, rfl, hAE.rd (List.prefix_refl _), hME.rd (List.prefix_refl _)⟩, hBE⟩
end Go.Proofs.YtnigmdkhecblnaaDoor

/- Contracts: the blocks of a frame, one by one. -/
namespace Go.Proofs.YtnigmdkhecblnaaDoor
open Go.RowKit
set_option maxRecDepth 100000
attribute [local go_sem] run_store_complex

/-- What reads so, in blocks that are kept, goes on reading so. -/
theorem Rd.keepS {S : Nat → Prop} {w w' : World} {A : Option Addr} {xs : List Value} (h : Rd w A xs) (hS : ∀ b off, A = some ⟨b, off, none⟩ → S b) (hk : Keep S w w') : Rd w' A xs := by
  intro hx
  obtain ⟨b, off, rfl, hlt, hc⟩ := h hx
  exact ⟨b, off, rfl, Nat.lt_of_lt_of_le hlt hk.size, fun j u hu => (hk.cell (p := ⟨b, off + j, none⟩) (hS b off rfl)).trans (hc j u hu)⟩

/-- A usable block, as it is handed on. -/
def IsBlock (samples : List (Int × Int)) (j : Nat) (args : Array Value) (_ : World) : Prop :=
  ∃ v0 v1 v2 v3, args = #[.int .i64 ((4 * j : Nat) : Int), .agg #[v0, v1, v2, v3]] ∧ CI v0 (samples.getD (4 * j) (0, 0)) ∧ CI v1 (samples.getD (4 * j + 1) (0, 0)) ∧ CI v2 (samples.getD (4 * j + 2) (0, 0)) ∧ CI v3 (samples.getD (4 * j + 3) (0, 0))

/-- The numbers of the usable blocks. -/
def blockNs (us : List Bool) (m : Nat) : List Nat := (List.range m).filter fun j => allU us (4 * j)
theorem blockNs_succ_yes {us : List Bool} {m : Nat} (h : allU us (4 * m) = true) : blockNs us (m + 1) = blockNs us m ++ [m] := by simp [blockNs, List.range_succ, List.filter_append, h]
theorem blockNs_succ_no {us : List Bool} {m : Nat} (h : allU us (4 * m) = false) : blockNs us (m + 1) = blockNs us m := by simp [blockNs, List.range_succ, List.filter_append, h]
theorem blockNs_split {us : List Bool} {k m : Nat} (hk : k < m) (h : allU us (4 * k) = true) : ∃ rest, blockNs us m = blockNs us k ++ k :: rest := by
  obtain ⟨rest, hr⟩ := range_split hk
  refine ⟨rest.filter fun j => allU us (4 * j), ?_⟩
  simp only [blockNs]
  rw [hr, List.filter_append, List.filter_cons, if_pos h]

theorem blocks_iter (n Bn : Nat) (hn : 1 ≤ n) (gain limit : Int) (A G U : Option Addr) (cA c cU ng : Nat) (samples : List (Int × Int)) (us : List Bool) (S : Nat → Prop) (hS : S Bn) (hSA : ∀ b off, A = some ⟨b, off, none⟩ → S b) (hSU : ∀ b off, U = some ⟨b, off, none⟩ → S b)
    (w : World) (hc : Blk w Bn 81 [.int .i64 gain, .int .i64 limit, .slice A samples.length cA, .slice G ng c, .slice U samples.length cU]) (hs : Rd w A (gs samples)) (hu : Rd w U (bls us)) (hl : us.length = samples.length) (hn1 : samples.length ≤ 1000) (hb : ∀ g ∈ samples, gle 2000000 g) :
    Iter Tryd.prog n 69 #[.pointer (some ⟨Bn, 0, none⟩)] (IsBlock samples) (blockNs us (samples.length / 4)) S w := by
  intro l J W hk hJ hY h0
  have hcW : Blk W Bn 81 [.int .i64 gain, .int .i64 limit, .slice A samples.length cA, .slice G ng c, .slice U samples.length cU] := (hk.block Bn hS).trans hc
  have hsW := hs.keepS hSA hk
  have huW := hu.keepS hSU hk
  have HY := hide hY
  have HB := hide hb
  clear hY hc hs hu hk hb
  refine callsIn_of_wp Tryd.func69 rfl trivial ?_ rfl
  simp only [Tryd.ntmps69, List.size_toArray, List.length_cons, List.length_nil, Nat.reduceAdd, Nat.reduceSub, Array.replicate_succ, Array.replicate_zero, List.push_toArray, List.append_toArray, List.nil_append, List.cons_append]
  gi_wp2
  gi_loopw [3] (fun i wr => ∃ k : Nat, k ≤ samples.length / 4 ∧ i = .int .i64 ((4 * k : Nat) : Int) ∧ Blk wr Bn 81 [.int .i64 gain, .int .i64 limit, .slice A samples.length cA, .slice G ng c, .slice U samples.length cU] ∧ Rd wr A (gs samples) ∧ Rd wr U (bls us) ∧ J (blockNs us k) wr) (fun i _ => samples.length / 4 * 4 - (intOf i).toNat)
  case atStart => exact ⟨0, Nat.zero_le _, rfl, hcW, hsW, huW, h0⟩
  case round =>
    clear hcW hsW huW h0
    obtain ⟨k, hkN, rfl, hcr, hsr, hur, hj⟩ := hrel
    have hBn : Bn < wr.heap.size := hcr.lt
    have c0 := hcr.cell 0
    have c1 := hcr.cell 1
    have c2 := hcr.cell 2
    have c3 := hcr.cell 3
    have c4 := hcr.cell 4
    simp only [List.getElem?_cons_zero, List.getElem?_cons_succ] at c0 c1 c2 c3 c4
    obtain ⟨f, hf⟩ : ∃ f, 4 * k = f := ⟨_, rfl⟩
    by_cases hlt : k < samples.length / 4
    · have hle : f + 4 ≤ samples.length := by omega
      have HC := hide (blockAt_c gain limit A G U cA c cU ng samples us f wr hsr hur hl hle hn1 HB.out)
      rw [hf]
      by_cases hall : allU us (4 * k) = true
      · have hall' : allU us f = true := by rw [← hf]; exact hall
        have HCy := hide (HC.out.mono (R' := fun r w' => (∃ v0 v1 v2 v3, r = .returned (.tuple #[.agg #[v0, v1, v2, v3], .bool true]) ∧ CI v0 (samples.getD f (0, 0)) ∧ CI v1 (samples.getD (f + 1) (0, 0)) ∧ CI v2 (samples.getD (f + 2) (0, 0)) ∧ CI v3 (samples.getD (f + 3) (0, 0))) ∧ Below wr.heap.size wr w') (fun r w' hx => by
          obtain ⟨h, hb⟩ := hx
          refine ⟨?_, hb⟩
          rcases h with ⟨_, h⟩ | ⟨h, _⟩
          · exact h
          · rw [hall'] at h; cases h))
        gi_wp2_with (refine ⟨trivial, ?_⟩; gi_at_call 70; refine (CallsIn.mono (callsIn_wide.2 HCy.out) ?_); rintro e w1 ⟨⟨v0, v1, v2, v3, rfl, ⟨x0, y0, rfl, fx0, fy0⟩, ⟨x1, y1, rfl, fx1, fy1⟩, ⟨x2, y2, rfl, fx2, fy2⟩, ⟨x3, y3, rfl, fx3, fy3⟩⟩, hb1⟩)
        obtain ⟨W2, hW2⟩ : ∃ W2, w1.alloc (.cells #[.complex .f64 x0 y0, .complex .f64 x1 y1, .complex .f64 x2 y2, .complex .f64 x3 y3] 92) = W2 := ⟨_, rfl⟩
        rw [hW2]
        have hb2 : Below wr.heap.size wr W2 := by rw [← hW2]; exact hb1.alloc hb1.size _
        clear hW2
        obtain ⟨rest, hrest⟩ := blockNs_split hlt hall
        obtain ⟨fn, tmps, assign, body, hy, hR⟩ := HY.out (blockNs us k) k rest W2 #[.int .i64 (f : Int), .agg #[.complex .f64 x0 y0, .complex .f64 x1 y1, .complex .f64 x2 y2, .complex .f64 x3 y3]] hrest (hJ _ _ _ hj hb2)
          ⟨_, _, _, _, by rw [hf], by rw [hf]; exact ⟨x0, y0, rfl, fx0, fy0⟩, by rw [hf]; exact ⟨x1, y1, rfl, fx1, fy1⟩, by rw [hf]; exact ⟨x2, y2, rfl, fx2, fy2⟩, by rw [hf]; exact ⟨x3, y3, rfl, fx3, fy3⟩⟩
        rw [hy, Oper.uponIn_round]
        refine ⟨fun h => (by cases h), ?_⟩
        refine hR.mono ?_
        rintro e W3 ⟨rfl, hJ3, hk3⟩
        have hc3 : Blk W3 Bn 81 _ := (hk3.block Bn hS).trans (hcr.bel hb2)
        have hs3 := (hsr.bel hb2).keepS hSA hk3
        have hu3 := (hur.bel hb2).keepS hSU hk3
        gi_wp2
        go_roundw
        case rel => exact ⟨k + 1, by omega, by go_num, hc3, hs3, hu3, by rw [blockNs_succ_yes hall]; exact hJ3⟩
        case measure => simp [intOf]; omega
      · have hall' : allU us f = false := by rw [← hf]; simpa using hall
        have HCn := hide (HC.out.mono (R' := fun r w' => r = .returned (.tuple #[.agg #[cz, cz, cz, cz], .bool false]) ∧ Below wr.heap.size wr w') (fun r w' hx => by
          obtain ⟨h, hb⟩ := hx
          refine ⟨?_, hb⟩
          rcases h with ⟨h, _⟩ | ⟨_, h⟩
          · rw [hall'] at h; cases h
          · exact h))
        simp only [cz] at HCn
        gi_wp2_with (refine ⟨trivial, ?_⟩; gi_at_call 70; refine (CallsIn.mono (callsIn_wide.2 HCn.out) ?_); rintro e w1 ⟨rfl, hb1⟩)
        obtain ⟨W2, hW2⟩ : ∃ W2, w1.alloc (.cells #[.complex .f64 0 0, .complex .f64 0 0, .complex .f64 0 0, .complex .f64 0 0] 92) = W2 := ⟨_, rfl⟩
        rw [hW2]
        have hb2 : Below wr.heap.size wr W2 := by rw [← hW2]; exact hb1.alloc hb1.size _
        clear hW2
        have hallk : allU us (4 * k) = false := by rw [hf]; exact hall'
        refine ⟨fun f h => (by cases h), ?_⟩
        gi_wp2
        go_roundw
        case rel => exact ⟨k + 1, by omega, by go_num, hcr.bel hb2, hsr.bel hb2, hur.bel hb2, by rw [blockNs_succ_no hallk]; exact hJ _ _ _ hj hb2⟩
        case measure => simp [intOf]; omega
    · have hle : ¬ (f + 4 ≤ samples.length) := by omega
      rw [hf]
      obtain rfl : k = samples.length / 4 := by omega
      gi_wp2
      go_end0
      exact ⟨⟨_, rfl⟩, hj⟩
end Go.Proofs.YtnigmdkhecblnaaDoor

/- Contracts: comparisons of lists, and the examples of the first chapter's laws. -/
namespace Go.Proofs.YtnigmdkhecblnaaDoor
open Go.RowKit
set_option maxRecDepth 100000

theorem gausses_c (l m : List (Int × Int)) (A B : Option Addr) (c d : Nat) (w : World) (hr : Rd w A (gs l)) (hs : Rd w B (gs m)) (hl : l.length ≤ 1000) :
    Calls Tryd.prog 37 #[.slice A l.length c, .slice B m.length d] w fun r w' => r = .returned (.bool (decide (l = m))) ∧ Below w.heap.size w w' := by
  by_cases hn : l.length = m.length
  · have e1 : ((l.length : Int) != (m.length : Int)) = false := by simp; omega
    have hm : m.length ≤ 1000 := by omega
    have HN := hide hn
    clear hn
    go_enter Tryd.func37, Tryd.ntmps37
    go_wp2
    go_loopw [5] (fun i wr => ∃ k : Nat, k ≤ l.length ∧ i = .int .i64 k ∧ Below w.heap.size w wr ∧ Hid (∀ j (h : j < l.length) (h' : j < m.length), j < k → l[j] = m[j])) (fun i _ => l.length - (intOf i).toNat)
    case atStart => exact ⟨0, Nat.zero_le _, rfl, Below.refl _ _, fun _ _ _ h => by omega⟩
    case round =>
      obtain ⟨k, hk, rfl, hb, h0⟩ := hrel
      by_cases hlt : k < l.length
      · have hlt' : k < m.length := by have := HN.out; omega
        obtain ⟨b, off, rfl, hblt, hc0, hc1⟩ := (hr.bel hb).g_at hlt
        obtain ⟨b', off', rfl, hblt', hc0', hc1'⟩ := (hs.bel hb).g_at hlt'
        by_cases hz : l[k] = m[k]
        · have H1 : Hid (∀ j (h : j < l.length) (h' : j < m.length), j < k + 1 → l[j] = m[j]) := fun j h h' hj => by
            by_cases e : j = k
            · subst e; exact hz
            · exact h0.out j h h' (by omega)
          rw [← hz] at hc0' hc1'
          clear hz
          generalize l[k] = g at hc0 hc1 hc0' hc1'
          obtain ⟨ga, gb⟩ := g
          dsimp only at hc0 hc1 hc0' hc1'
          go_wp2
          go_quiet (fail)
          go_wp2
          go_roundw
          case rel => exact ⟨k + 1, by omega, by go_num, below_drewN hb _, H1⟩
          case measure => simp [intOf]; omega
        · have H : Hid (decide (l = m) = false) := by show decide (l = m) = false; simp; rintro rfl; exact hz rfl
          generalize l[k] = g at hc0 hc1 hz
          generalize m[k] = g' at hc0' hc1' hz
          obtain ⟨ga, gb⟩ := g
          obtain ⟨ga', gb'⟩ := g'
          dsimp only at hc0 hc1 hc0' hc1'
          by_cases h1 : ga = ga'
          · subst h1
            have h2 : ¬ gb = gb' := fun e => hz (by rw [e])
            clear hz
            go_wp2
            go_quiet (fail)
            go_wp2
            go_ret
            exact ⟨by rw [H.out]; rfl, below_drewN hb _⟩
          · clear hz
            go_wp2
            go_quiet (fail)
            go_wp2
            go_ret
            exact ⟨by rw [H.out]; rfl, below_drewN hb _⟩
      · have H : Hid (decide (l = m) = true) := by
          show decide (l = m) = true
          simp
          refine List.ext_getElem HN.out fun j h h' => h0.out j h h' (by omega)
        go_wp2
        go_ret
        exact ⟨by rw [H.out]; rfl, hb⟩
  · have H : Hid (decide (l = m) = false) := by show decide (l = m) = false; simp; rintro rfl; exact hn rfl
    have e1 : ((l.length : Int) != (m.length : Int)) = true := by simp; omega
    clear hn
    go_enter Tryd.func37, Tryd.ntmps37
    go_wp2
    go_ret
    exact ⟨by rw [H.out]; rfl, Below.refl _ _⟩

theorem chirp_c (w : World) : Calls Tryd.prog 33 #[] w fun r w' => r = .returned (.agg #[.int .i64 5000, .int .i64 3, .int .i64 4]) ∧ Below w.heap.size w w' := by
  go_enter Tryd.func33, Tryd.ntmps33
  go_wp2
  try simp only [Exit.inBlock, Exit.then]
  refine bodyPost_ret (by simp [results, Tryd.results33, go_sem]; try rfl) rfl ?_
  exact ⟨rfl, (Below.refl _ _).alloc (Nat.le_refl _) _⟩
end Go.Proofs.YtnigmdkhecblnaaDoor

/- Contracts: lists of lists compared; the frame of the examples. -/
namespace Go.Proofs.YtnigmdkhecblnaaDoor
open Go.RowKit
set_option maxRecDepth 100000

theorem Lists.get {w : World} : ∀ {vs : List Value} {ll : List (List Int)}, Lists w vs ll → ∀ (k : Nat) (h : k < vs.length) (h' : k < ll.length), ∃ A c, vs[k] = .slice A (ll[k]).length c ∧ RdT w 3 A (ints ll[k])
  | _ :: _, _ :: _, ⟨h, _⟩, 0, _, _ => h
  | _ :: _, _ :: _, ⟨_, h⟩, k + 1, h1, h2 => Lists.get h k (by simpa using h1) (by simpa using h2)
  | [], _, _, _, h, _ => absurd h (Nat.not_lt_zero _)
  | _ :: _, [], h, _, _, _ => h.elim

section
variable {w wx w1 : World} {n : Nat} {p0 p1 : Addr} {v0 v1 : Value}
theorem hold2_bel (h : wx.cell? p0 = some v0 ∧ wx.cell? p1 = some v1 ∧ Below n w wx) (hb : Below wx.heap.size wx w1) (hB : n ≤ wx.heap.size) : w1.cell? p0 = some v0 ∧ w1.cell? p1 = some v1 ∧ Below n w w1 := by
  obtain ⟨h0, h1, h2⟩ := h
  exact ⟨(hb.cell (World.block_lt_of_cell? _ _ h0)).trans h0, (hb.cell (World.block_lt_of_cell? _ _ h1)).trans h1, h2.trans (hb.mono hB)⟩
theorem hold2_drew (h : wx.cell? p0 = some v0 ∧ wx.cell? p1 = some v1 ∧ Below n w wx) : wx.drew.cell? p0 = some v0 ∧ wx.drew.cell? p1 = some v1 ∧ Below n w wx.drew := ⟨h.1, h.2.1, h.2.2.drew⟩
end

theorem lists_c (vs ws : List Value) (ll mm : List (List Int)) (A B : Option Addr) (c d : Nat) (w : World) (hr : Rd w A vs) (hs : Rd w B ws) (hL : Lists w vs ll) (hM : Lists w ws mm) (hl : vs.length ≤ 1100) (_hl2 : ws.length ≤ 1100) (hi : ∀ l ∈ ll, l.length ≤ 1000) :
    Calls Tryd.prog 36 #[.slice A vs.length c, .slice B ws.length d] w fun r w' => r = .returned (.bool (decide (ll = mm))) ∧ Below w.heap.size w w' := by
  have el : vs.length = ll.length := hL.length
  have em : ws.length = mm.length := hM.length
  by_cases hn : ll.length = mm.length
  · have e1 : ((vs.length : Int) != (ws.length : Int)) = false := by simp; omega
    have EL := hide el
    have EM := hide em
    have HN := hide hn
    have HL := hide hL
    have HM := hide hM
    have HI := hide hi
    clear hn hL hM hi el em
    go_enter Tryd.func36, Tryd.ntmps36
    go_wp2
    go_loopw [5] (fun i wr => ∃ k : Nat, k ≤ vs.length ∧ i = .int .i64 k ∧ Below w.heap.size w wr ∧ Hid (∀ j (h : j < ll.length) (h' : j < mm.length), j < k → ll[j] = mm[j])) (fun i _ => vs.length - (intOf i).toNat)
    case atStart => exact ⟨0, Nat.zero_le _, rfl, Below.refl _ _, fun _ _ _ h => by omega⟩
    case round =>
      obtain ⟨k, hk, rfl, hb, h0⟩ := hrel
      by_cases hlt : k < vs.length
      · have hlt' : k < ws.length := by have := HN.out; have := EL.out; have := EM.out; omega
        have hk1 : k < ll.length := by have := EL.out; omega
        have hk2 : k < mm.length := by have := EM.out; omega
        obtain ⟨A1, c1, hv1, hA1⟩ := Lists.get HL.out k hlt hk1
        obtain ⟨B1, d1, hw1, hB1⟩ := Lists.get HM.out k hlt' hk2
        obtain ⟨b, off, rfl, hblt, hc0⟩ := (hr.bel hb) (by intro e; rw [e] at hlt; simp at hlt)
        obtain ⟨b', off', rfl, hblt', hc0'⟩ := (hs.bel hb) (by intro e; rw [e] at hlt'; simp at hlt')
        have z1 := hc0 k vs[k] (List.getElem?_eq_getElem hlt)
        have z2 := hc0' k ws[k] (List.getElem?_eq_getElem hlt')
        rw [hv1] at z1
        rw [hw1] at z2
        have hli := HI.out _ (List.getElem_mem hk1)
        have HC : Hid (Calls Tryd.prog 17 #[.slice A1 (ll[k]).length c1, .slice B1 (mm[k]).length d1] wr.drew fun r w' => r = .returned (.bool (decide (ll[k] = mm[k]))) ∧ Below wr.drew.heap.size wr.drew w') :=
          ints_c ll[k] mm[k] A1 B1 c1 d1 wr.drew ((hA1.bel hb).1.bel (Below.refl _ _).drew) ((hB1.bel hb).1.bel (Below.refl _ _).drew) hli
        have HS : Hid (wr.cell? ⟨b, off + k, none⟩ = some (.slice A1 (ll[k]).length c1) ∧ wr.cell? ⟨b', off' + k, none⟩ = some (.slice B1 (mm[k]).length d1) ∧ Below w.heap.size w wr) := ⟨z1, z2, hb⟩
        have hz0 : w.heap.size ≤ wr.drew.heap.size := hb.size
        have HZ : Hid (ll[k] = mm[k] → ∀ j (h : j < ll.length) (h' : j < mm.length), j < k + 1 → ll[j] = mm[j]) := fun hz j h h' hj => by
          by_cases e : j = k
          · subst e; exact hz
          · exact h0.out j h h' (by omega)
        have HX : Hid (ll[k] ≠ mm[k] → decide (ll = mm) = false) := fun hz => by simp; rintro rfl; exact hz rfl
        clear hc0 hc0' hv1 hw1 hA1 hB1 hli z1 z2
        have ix0 : (0 : Int) ≤ (k : Int) := by omega
        have ix1 : (k : Int) < (vs.length : Int) := by omega
        have ix2 : (k : Int) < (ws.length : Int) := by omega
        generalize ll[k] = l1 at HC HS HZ HX
        generalize mm[k] = m1 at HC HS HZ HX
        by_cases hz : l1 = m1
        · have e2 : decide (l1 = m1) = true := by simpa using hz
          rw [e2] at HC
          have H1 := hide (HZ.out hz)
          clear hz HZ HX e2
          go_upto_region 6 with fail
          go_region_held3 (fun w' => w'.cell? ⟨b, off + k, none⟩ = some (.slice A1 l1.length c1) ∧ w'.cell? ⟨b', off' + k, none⟩ = some (.slice B1 m1.length d1) ∧ Below w.heap.size w w')
            (first | with_reducible exact hold2_drew HS.out | with_reducible exact H3.out)
            (first | (go_at_call 17; refine HC.out.mono ?_; rintro e w3 ⟨rfl, hb3⟩; have H3 := hide (hold2_bel (hold2_drew HS.out) hb3 hz0)))
          go_wp2
          go_roundw
          case rel => exact ⟨k + 1, by omega, by go_num, H3.out.2.2, H1⟩
          case measure => simp [intOf]; omega
        · have e2 : decide (l1 = m1) = false := by simpa using hz
          rw [e2] at HC
          have H := hide (HX.out hz)
          clear hz HZ HX e2
          go_upto_region 6 with fail
          go_region_held3 (fun w' => w'.cell? ⟨b, off + k, none⟩ = some (.slice A1 l1.length c1) ∧ w'.cell? ⟨b', off' + k, none⟩ = some (.slice B1 m1.length d1) ∧ Below w.heap.size w w')
            (first | with_reducible exact hold2_drew HS.out | with_reducible exact H3.out)
            (first | (go_at_call 17; refine HC.out.mono ?_; rintro e w3 ⟨rfl, hb3⟩; have H3 := hide (hold2_bel (hold2_drew HS.out) hb3 hz0)))
          go_wp2
          go_ret
          exact ⟨by rw [H.out]; rfl, H3.out.2.2⟩
      · have H : Hid (decide (ll = mm) = true) := by
          show decide (ll = mm) = true
          simp
          refine List.ext_getElem HN.out fun j h h' => h0.out j h h' (by have := EL.out; omega)
        go_wp2
        go_ret
        exact ⟨by rw [H.out]; rfl, hb⟩
  · have H : Hid (decide (ll = mm) = false) := by show decide (ll = mm) = false; simp; rintro rfl; exact hn rfl
    have e1 : ((vs.length : Int) != (ws.length : Int)) = true := by simp; omega
    clear hn el em
    go_enter Tryd.func36, Tryd.ntmps36
    go_wp2
    go_ret
    exact ⟨by rw [H.out]; rfl, Below.refl _ _⟩

theorem frame_c (w : World) : Calls Tryd.prog 35 #[] w fun r w' => (∃ A G : Option Addr, r = .returned (.agg #[.int .i64 0, .int .i64 9, .slice A 4 4, .slice G 1 1]) ∧ Rd w' A (gs [(0, 0), (0, 5), (0, 5), (0, 0)]) ∧ Rd w' G (ints [2])) ∧ Below w.heap.size w w' := by
  go_enter Tryd.func35, Tryd.ntmps35
  go_wp2
  obtain ⟨WE, hWE, hE, hA, hG, hBE⟩ : ∃ WE, ((w.alloc (.cells #[.int .i64 0, .int .i64 9, .slice (some ⟨w.heap.size + 1, 0, none⟩) 4 4, .slice (some ⟨w.heap.size + 1 + 1, 0, none⟩) 1 1] 25)).alloc (.cells #[.int .i64 0, .int .i64 0, .int .i64 0, .int .i64 5, .int .i64 0, .int .i64 5, .int .i64 0, .int .i64 0] 47)).alloc (.cells #[.int .i64 2] 3) = WE ∧
      Blk WE w.heap.size 25 [.int .i64 0, .int .i64 9, .slice (some ⟨w.heap.size + 1, 0, none⟩) 4 4, .slice (some ⟨w.heap.size + 1 + 1, 0, none⟩) 1 1] ∧ Blk WE (w.heap.size + 1) 47 (gs [(0, 0), (0, 5), (0, 5), (0, 0)]) ∧ Blk WE (w.heap.size + 1 + 1) 3 (ints [2]) ∧ Below w.heap.size w WE := by
    obtain ⟨W, h1, h2, h3, h4, h5⟩ := new3 w 25 47 3 [.int .i64 0, .int .i64 9, .slice (some ⟨w.heap.size + 1, 0, none⟩) 4 4, .slice (some ⟨w.heap.size + 1 + 1, 0, none⟩) 1 1] (gs [(0, 0), (0, 5), (0, 5), (0, 0)]) (ints [2])
    subst h1
    refine ⟨_, rfl, h2, h3, h4, ?_⟩
    exact (((Below.refl _ _).alloc (Nat.le_refl _) _).alloc (by simp) _).alloc (by simp; omega) _
  rw [hWE]
  have g0 := hE.cell 0
  have g1 := hE.cell 1
  have g2 := hE.cell 2
  have g3 := hE.cell 3
  simp only [List.getElem?_cons_zero, List.getElem?_cons_succ] at g0 g1 g2 g3
  clear hWE
  try simp only [Exit.inBlock, Exit.then]
  refine bodyPost_ret (by simp [results, Tryd.results35, go_sem, g0, g1, g2, g3]; try rfl) rfl ?_
  exact ⟨⟨_, _, rfl, hA.rd (List.prefix_refl _), hG.rd (List.prefix_refl _)⟩, hBE⟩
end Go.Proofs.YtnigmdkhecblnaaDoor

/- Contracts: frames that are computed together. -/
namespace Go.Proofs.YtnigmdkhecblnaaDoor
open Go.RowKit
set_option maxRecDepth 100000

theorem flat_at {k : Nat} : ∀ {rows : List (List Value)}, (∀ r ∈ rows, r.length = k) → ∀ (i : Nat) (h : i < rows.length) (j : Nat), j < k → rows.flatten[i * k + j]? = rows[i][j]?
  | [], _, _, h, _, _ => absurd h (Nat.not_lt_zero _)
  | r :: rs, hr, 0, _, j, hj => by
    have := hr r (by simp)
    rw [List.flatten_cons, Nat.zero_mul, Nat.zero_add, List.getElem?_append_left (by omega)]
    rfl
  | r :: rs, hr, i + 1, h, j, hj => by
    have h1 := hr r (by simp)
    rw [List.flatten_cons, show (i + 1) * k + j = k + (i * k + j) from by rw [Nat.add_mul]; omega, List.getElem?_append_right (by omega), h1, show k + (i * k + j) - k = i * k + j from by omega]
    exact flat_at (fun r' h' => hr r' (by simp [h'])) i (by simpa using h) j hj

theorem flat_set5 (a b c d e : Value) : ∀ {rows : List (List Value)}, (∀ r ∈ rows, r.length = 5) → ∀ i, i < rows.length →
    (((((rows.flatten).set (i * 5) a).set (i * 5 + 1) b).set (i * 5 + 2) c).set (i * 5 + 3) d).set (i * 5 + 4) e = (rows.set i [a, b, c, d, e]).flatten
  | [], _, _, h => absurd h (Nat.not_lt_zero _)
  | r :: rs, hr, i, h => by
    have h1 := hr r (by simp)
    obtain ⟨x0, x1, x2, x3, x4, rfl⟩ : ∃ x0 x1 x2 x3 x4, r = [x0, x1, x2, x3, x4] := by
      match r, h1 with
      | [x0, x1, x2, x3, x4], _ => exact ⟨x0, x1, x2, x3, x4, rfl⟩
    cases i with
    | zero => rfl
    | succ i =>
      have ih := flat_set5 a b c d e (rows := rs) (fun r' h' => hr r' (by simp [h'])) i (by simpa using h)
      rw [List.set_cons_succ, List.flatten_cons, List.flatten_cons, ← ih, show (i + 1) * 5 = i * 5 + 1 + 1 + 1 + 1 + 1 from by omega,
        show i * 5 + 1 + 1 + 1 + 1 + 1 + 1 = (i * 5 + 1) + 1 + 1 + 1 + 1 + 1 from by omega, show i * 5 + 1 + 1 + 1 + 1 + 1 + 2 = (i * 5 + 2) + 1 + 1 + 1 + 1 + 1 from by omega,
        show i * 5 + 1 + 1 + 1 + 1 + 1 + 3 = (i * 5 + 3) + 1 + 1 + 1 + 1 + 1 from by omega, show i * 5 + 1 + 1 + 1 + 1 + 1 + 4 = (i * 5 + 4) + 1 + 1 + 1 + 1 + 1 from by omega]
      rfl

/-- A frame as it lies in memory. -/
structure Fr where
  gain : Int
  limit : Int
  A : Option Addr
  cA : Nat
  samples : List (Int × Int)
  G : Option Addr
  cG : Nat
  gaps : List Int
def Fr.row (f : Fr) : List Value := [.int .i64 f.gain, .int .i64 f.limit, .slice f.A f.samples.length f.cA, .slice f.G f.gaps.length f.cG]
def Fr.err (f : Fr) : Int := (frameE f.gain f.limit f.samples f.gaps).2
def Fr.ok (w : World) (f : Fr) : Prop := Rd w f.A (gs f.samples) ∧ Rd w f.G (ints f.gaps) ∧ f.samples.length ≤ 1000 ∧ f.gaps.length ≤ 1000
theorem Fr.ok.bel {w w' : World} {f : Fr} (h : f.ok w) (hb : Below w.heap.size w w') : f.ok w' := ⟨h.1.bel hb, h.2.1.bel hb, h.2.2⟩
/-- A checked frame as it lies in memory. -/
def Fr.row5 (x : Fr × Option Addr × Nat) : List Value := [.int .i64 x.1.gain, .int .i64 x.1.limit, .slice x.1.A x.1.samples.length x.1.cA, .slice x.1.G x.1.gaps.length x.1.cG, .slice x.2.1 x.1.samples.length x.2.2]
def Fr.ok5 (w : World) (x : Fr × Option Addr × Nat) : Prop := x.1.err = 0 ∧ RdT w 4 x.2.1 (bls (usableL x.1.limit x.1.samples x.1.gaps))
def zero5 : List Value := [.int .i64 0, .int .i64 0, .slice none 0 0, .slice none 0 0, .slice none 0 0]
def framesE (l : List Fr) : Int := if lenE l.length 4 = 0 then firstE (l.map Fr.err) else lenE l.length 4

theorem Tryd.info158 : (Tryd.prog.info? 81).map (fun i => (i.zero, i.size, i.bytes)) = some (some (.agg #[.int .i64 0, .int .i64 0, .slice none 0 0, .slice none 0 0, .slice none 0 0]), 5, 88) := by kernel_rfl
theorem madeCells_5 (n : Nat) : (madeCells (Value.agg #[.int .i64 0, .int .i64 0, .slice none 0 0, .slice none 0 0, .slice none 0 0]).cells (n * 5)).toList = (List.replicate n zero5).flatten := by
  rw [show (Value.agg #[.int .i64 0, .int .i64 0, .slice none 0 0, .slice none 0 0, .slice none 0 0]).cells = #[.int .i64 0, .int .i64 0, .slice none 0 0, .slice none 0 0, .slice none 0 0] from rfl]
  refine List.ext_getElem? fun i => ?_
  by_cases hi : i < n * 5
  · obtain ⟨q, r, hr, rfl⟩ : ∃ q r, r < 5 ∧ i = q * 5 + r := ⟨i / 5, i % 5, Nat.mod_lt _ (by omega), by omega⟩
    rw [flat_at (k := 5) (fun r h => by rw [List.eq_of_mem_replicate h]; rfl) q (by simp; omega) r hr, List.getElem_replicate]
    have e : r = 0 ∨ r = 1 ∨ r = 2 ∨ r = 3 ∨ r = 4 := by omega
    rcases e with rfl | rfl | rfl | rfl | rfl <;> simp [madeCells, zero5, hi, Nat.mul_add_mod_self_right] <;> exact ⟨q * 5, by rw [List.getElem?_range (by omega)], by simp⟩
  · rw [List.getElem?_eq_none (by simp [madeCells]; omega), List.getElem?_eq_none]
    simp [List.length_flatten, zero5]
    omega

theorem Rd.fr_at {w : World} {F : Option Addr} {l : List Fr} (h : Rd w F (l.map Fr.row).flatten) {k : Nat} (hk : k < l.length) : ∃ b off, F = some ⟨b, off, none⟩ ∧ b < w.heap.size ∧ w.cell? ⟨b, off + k * 4, none⟩ = some (.int .i64 l[k].gain) ∧ w.cell? ⟨b, off + k * 4 + 1, none⟩ = some (.int .i64 l[k].limit) ∧
    w.cell? ⟨b, off + k * 4 + 2, none⟩ = some (.slice l[k].A l[k].samples.length l[k].cA) ∧ w.cell? ⟨b, off + k * 4 + 3, none⟩ = some (.slice l[k].G l[k].gaps.length l[k].cG) := by
  have hf : ∀ r ∈ l.map Fr.row, r.length = 4 := fun r h => by obtain ⟨f, _, rfl⟩ := List.mem_map.1 h; rfl
  have hm : k < (l.map Fr.row).length := by simpa using hk
  have g0 := flat_at hf k hm 0 (by omega)
  have g1 := flat_at hf k hm 1 (by omega)
  have g2 := flat_at hf k hm 2 (by omega)
  have g3 := flat_at hf k hm 3 (by omega)
  simp only [List.getElem_map, Fr.row, List.getElem?_cons_zero, List.getElem?_cons_succ] at g0 g1 g2 g3
  obtain ⟨b, off, rfl, hlt, hc⟩ := h (by intro e; rw [e] at g0; simp at g0)
  exact ⟨b, off, rfl, hlt, hc _ _ g0, hc _ _ g1, hc _ _ g2, hc _ _ g3⟩

theorem Blk.keepT_set5 {w : World} {g : Nat} {e t : TypeId} {cs : List Value} (h : Blk w g e cs) (hte : t ≠ e) (i0 i1 i2 i3 i4 : Nat) (a b c d f : Value) :
    KeepT t w (((((w.setCell ⟨g, i0, none⟩ a).setCell ⟨g, i1, none⟩ b).setCell ⟨g, i2, none⟩ c).setCell ⟨g, i3, none⟩ d).setCell ⟨g, i4, none⟩ f) :=
  ((((KeepT.setCell h hte _ _).trans (KeepT.setCell (h.set_ i0 a) hte _ _)).trans (KeepT.setCell ((h.set_ i0 a).set_ i1 b) hte _ _)).trans (KeepT.setCell (((h.set_ i0 a).set_ i1 b).set_ i2 c) hte _ _)).trans (KeepT.setCell ((((h.set_ i0 a).set_ i1 b).set_ i2 c).set_ i3 d) hte _ _)

theorem checkedFrames_c (l : List Fr) (F : Option Addr) (c : Nat) (w : World) (hr : Rd w F (l.map Fr.row).flatten) (hok : ∀ f ∈ l, f.ok w) (hl : l.length ≤ 1000) :
    Calls Tryd.prog 51 #[.slice F l.length c] w fun r w' =>
      ((framesE l ≠ 0 ∧ r = .returned (.tuple #[.slice none 0 0, .int .i64 (framesE l)])) ∨
        (framesE l = 0 ∧ ∃ (g : Nat) (xs : List (Fr × Option Addr × Nat)), r = .returned (.tuple #[.slice (some ⟨g, 0, none⟩) l.length l.length, .int .i64 0]) ∧ xs.map Prod.fst = l ∧ Blk w' g 81 (xs.map Fr.row5).flatten ∧ ∀ x ∈ xs, Fr.ok5 w' x)) ∧ Below w.heap.size w w' := by
  obtain ⟨i0, hi, iz0, iz1, iz2⟩ := info_parts Tryd.info158
  have hmk : ∀ W, (Instr.makeSlice 100 (.int .i64 (l.length : Int)) (.int .i64 (l.length : Int))).run Tryd.prog W = .ok (.slice (some ⟨W.heap.size, 0, none⟩) l.length l.length) (W.alloc (.cells (List.replicate l.length zero5).flatten.toArray 81)) := fun W => by
    have h1 := run_make_rowN (P := Tryd.prog) 100 81 i0 _ Tryd.underlying100 hi iz0 .i64 .i64 l.length l.length (Nat.le_refl _) (by rw [iz2]; omega) (by omega) W
    have h2 := madeCells_5 l.length
    rw [iz1] at h1
    rw [h1]
    congr 3
    rw [← h2]
  by_cases h0 : lenE l.length 4 = 0
  · have e1 : (lenE l.length 4 != 0) = false := by simpa using h0
    have HF : Hid (framesE l = firstE (l.map Fr.err)) := by show framesE l = _; unfold framesE; rw [if_pos h0]
    have HOK := hide hok
    clear h0 hok
    go_enter Tryd.func51, Tryd.ntmps51
    go_upto_region 6 with (first | (go_at_call 73; refine (lengthError_c _ _ _).mono ?_; rintro e w1 ⟨rfl, hb1⟩))
    generalize hW : w1.alloc (.cells (List.replicate l.length zero5).flatten.toArray 81) = W
    have hBW : Below w1.heap.size w1 W := by rw [← hW]; exact (Below.refl _ _).alloc (Nat.le_refl _) _
    have hGW : Blk W w1.heap.size 81 (List.replicate l.length zero5).flatten := by rw [← hW]; exact Blk.new w1 _ _
    clear hW
    obtain ⟨g, hg⟩ : ∃ g, w1.heap.size = g := ⟨_, rfl⟩
    have hgw : w.heap.size ≤ g := by have := hb1.size; omega
    rw [hg] at hGW hBW ⊢
    go_wp2
    go_loopw [21] (fun i wr => ∃ k : Nat, k ≤ l.length ∧ i = .int .i64 k ∧ Hid (firstE ((l.map Fr.err).take k) = 0) ∧ Below g w1 wr ∧ ∃ xs : List (Fr × Option Addr × Nat), Hid (xs.map Prod.fst = l.take k) ∧ Blk wr g 81 (xs.map Fr.row5 ++ List.replicate (l.length - k) zero5).flatten ∧ Hid (∀ x ∈ xs, Fr.ok5 wr x)) (fun i _ => l.length - (intOf i).toNat)
    case atStart => exact ⟨0, Nat.zero_le _, rfl, rfl, hBW, [], rfl, by simpa using hGW, fun x h => absurd h (by simp)⟩
    case round =>
      obtain ⟨k, hk, rfl, he0, hbr, xs, hxs, hGr, hx5⟩ := hrel
      have hbw : Below w.heap.size w wr := tr hb1 hbr hgw
      by_cases hlt : k < l.length
      · obtain ⟨b, off, rfl, hbl, z0, z1, z2, z3⟩ := (hr.bel hbw).fr_at hlt
        have hfo := (HOK.out _ (List.getElem_mem hlt)).bel hbw
        have hErr : Hid (firstE ((l.map Fr.err).take (k + 1)) = (l[k]).err) := by
          have := firstE_take_succ (l.map Fr.err) k (by simpa using hlt) he0.out
          rw [List.getElem_map] at this
          exact this
        have hTk : Hid (l.take (k + 1) = l.take k ++ [l[k]]) := List.take_succ_eq_append_getElem hlt
        generalize l[k] = f at z0 z1 z2 z3 hfo hErr hTk
        obtain ⟨fg, fl, fA, fcA, fs, fG, fcG, fgaps⟩ := f
        obtain ⟨o1, o2, o3, o4⟩ := hfo
        dsimp only at z0 z1 z2 z3 o1 o2 o3 o4
        have HO1 := hide o1
        have HO2 := hide o2
        clear o1 o2
        have hbrl : b < wr.heap.size := hbl
        by_cases hf0 : (frameE fg fl fs fgaps).2 = 0
        · have hz0 : (frameE fg fl fs fgaps).2 = 0 := hf0
          have HE1 : Hid (firstE ((l.map Fr.err).take (k + 1)) = 0) := hErr.out.trans hf0
          clear hf0
          have hgl : g < wr.heap.size := hGr.lt
          go_upto_region 9 with (first | (go_at_call 38; refine (checked_okT fg fl fA fG fcA fcG fs fgaps _ (HO1.out.bel ((Below.refl _ _).alloc (Nat.le_refl _) _)) (HO2.out.bel ((Below.refl _ _).alloc (Nat.le_refl _) _)) o3 o4 hz0).mono ?_; rintro e w3 ⟨⟨U, cU, rfl, hU⟩, hb3⟩))
          have hs1 := hbw.size
          generalize hV : w3.alloc (.cells #[.int .i64 fg, .int .i64 fl, .slice fA fs.length fcA, .slice fG fgaps.length fcG, .slice U fs.length cU] 81) = V
          have hbrV : Below wr.heap.size wr V := by
            rw [← hV]
            have h1 : Below wr.heap.size wr w3 := tr ((Below.refl wr.heap.size wr).alloc (Nat.le_refl _) _) hb3 (by simp)
            exact h1.alloc h1.size _
          have hUV : RdT V 4 U (bls (usableL fl fs fgaps)) := by rw [← hV]; exact hU.bel ((Below.refl _ _).alloc (Nat.le_refl _) _)
          have hXV : Blk V w3.heap.size 81 [.int .i64 fg, .int .i64 fl, .slice fA fs.length fcA, .slice fG fgaps.length fcG, .slice U fs.length cU] := by rw [← hV]; exact Blk.new w3 _ [_, _, _, _, _]
          clear hV
          have hGV := hGr.bel hbrV
          have hlen : xs.length = k := by have := congrArg List.length hxs.out; simpa [Nat.min_eq_left hk] using this
          have hrows : ∀ r ∈ xs.map Fr.row5 ++ List.replicate (l.length - k) zero5, r.length = 5 := fun r h => by
            rcases List.mem_append.1 h with h | h
            · obtain ⟨x, _, rfl⟩ := List.mem_map.1 h; rfl
            · rw [List.eq_of_mem_replicate h]; rfl
          have hki : k < (xs.map Fr.row5 ++ List.replicate (l.length - k) zero5).length := by simp [hlen]; omega
          have hrk : (xs.map Fr.row5 ++ List.replicate (l.length - k) zero5)[k] = zero5 := by
            rw [List.getElem_append_right (by simp [hlen])]; simp
          have y : ∀ j, j < 5 → V.cell? ⟨g, k * 5 + j, none⟩ = zero5[j]? := fun j hj => by
            rw [hGV.cell, flat_at hrows k hki j hj, hrk]
          have y0 := y 0 (by omega)
          have y1 := y 1 (by omega)
          have y2 := y 2 (by omega)
          have y3 := y 3 (by omega)
          have y4 := y 4 (by omega)
          simp only [zero5, List.getElem?_cons_zero, List.getElem?_cons_succ, Nat.add_zero] at y0 y1 y2 y3 y4
          have q0 := hGV.frozen (k * 5)
          have q1 := hGV.frozen (k * 5 + 1)
          have q2 := hGV.frozen (k * 5 + 2)
          have q3 := hGV.frozen (k * 5 + 3)
          have q4 := hGV.frozen (k * 5 + 4)
          have u0 := hXV.cell 0
          have u1 := hXV.cell 1
          have u2 := hXV.cell 2
          have u3 := hXV.cell 3
          have u4 := hXV.cell 4
          simp only [List.getElem?_cons_zero, List.getElem?_cons_succ] at u0 u1 u2 u3 u4
          have HSET := hide (flat_set5 (.int .i64 fg) (.int .i64 fl) (.slice fA fs.length fcA) (.slice fG fgaps.length fcG) (.slice U fs.length cU) hrows k hki)
          have HGV := hide hGV
          have HUV := hide hUV
          have HBV := hide hbrV
          clear hGV hUV hbrV y hrk hrows hki hXV hU z0 z1 z2 z3
          go_wp2
          go_roundw
          case rel =>
            have hKT := (KeepT.bel (t := 4) HBV.out).trans (HGV.out.keepT_set5 (t := 4) (by decide) (k * 5) (k * 5 + 1) (k * 5 + 2) (k * 5 + 3) (k * 5 + 4) (.int .i64 fg) (.int .i64 fl) (.slice fA fs.length fcA) (.slice fG fgaps.length fcG) (.slice U fs.length cU))
            have hKU := HUV.out.keep (HGV.out.keepT_set5 (t := 4) (by decide) (k * 5) (k * 5 + 1) (k * 5 + 2) (k * 5 + 3) (k * 5 + 4) (.int .i64 fg) (.int .i64 fl) (.slice fA fs.length fcA) (.slice fG fgaps.length fcG) (.slice U fs.length cU))
            have hb5 : Below g w1 V := hbr.trans (HBV.out.mono (by omega))
            refine ⟨k + 1, by omega, by go_num, HE1.out, ((((hb5.setCell (Nat.le_refl _) _).setCell (Nat.le_refl _) _).setCell (Nat.le_refl _) _).setCell (Nat.le_refl _) _).setCell (Nat.le_refl _) _,
              xs ++ [(⟨fg, fl, fA, fcA, fs, fG, fcG, fgaps⟩, U, cU)], ?_, ?_, ?_⟩
            · show _ = _
              rw [List.map_append, hxs.out, hTk.out]; rfl
            · have h1 := ((((HGV.out.set_ (k * 5) (.int .i64 fg)).set_ (k * 5 + 1) (.int .i64 fl)).set_ (k * 5 + 2) (.slice fA fs.length fcA)).set_ (k * 5 + 3) (.slice fG fgaps.length fcG)).set_ (k * 5 + 4) (.slice U fs.length cU)
              rw [HSET.out] at h1
              have e3 : l.length - k = (l.length - (k + 1)) + 1 := by omega
              rw [e3, List.replicate_succ, List.set_append_right _ _ (by simp [hlen])] at h1
              simp only [List.length_map, hlen, Nat.sub_self, List.set_cons_zero] at h1
              rw [List.map_append, List.append_assoc]
              exact h1
            · intro x hx
              rcases List.mem_append.1 hx with h | h
              · exact ⟨(hx5.out x h).1, (hx5.out x h).2.keep hKT⟩
              · rw [List.mem_singleton.1 h]
                exact ⟨hz0, hKU⟩
          case measure => simp [intOf]; omega
        · have e2 : ((frameE fg fl fs fgaps).2 != 0) = true := by simpa using hf0
          have HE : Hid (framesE l = (frameE fg fl fs fgaps).2) := by
            show framesE l = _
            rw [HF.out, firstE_of_take _ (k + 1) (by rw [hErr.out]; exact hf0), hErr.out]
            rfl
          have HN := hide hf0
          clear hf0
          go_wp2_with (first | (go_at_call 38; refine (checked_any fg fl fA fG fcA fcG fs fgaps _ (HO1.out.bel ((Below.refl _ _).alloc (Nat.le_refl _) _)) (HO2.out.bel ((Below.refl _ _).alloc (Nat.le_refl _) _)) o3 o4).mono ?_; rintro e w3 ⟨⟨a1, b1, A2, n2, c2', G2, n3, c3', U2, n4, c4', rfl⟩, hb3⟩))
          go_ret2
          have hs1 := hbw.size
          have hb4 : Below w.heap.size w w3 := tr (hbw.alloc hs1 _) hb3 (by simp; omega)
          exact ⟨.inl ⟨by rw [HE.out]; exact HN.out, by rw [HE.out]; rfl⟩, hb4.alloc hb4.size _⟩
      · obtain rfl : k = l.length := by omega
        go_wp2
        go_ret2
        refine ⟨.inr ⟨?_, g, xs, rfl, ?_, ?_, hx5.out⟩, hbw⟩
        · rw [HF.out]; have := he0.out; rwa [List.take_of_length_le (by simp)] at this
        · rw [hxs.out, List.take_of_length_le (Nat.le_refl _)]
        · rw [Nat.sub_self, List.replicate_zero, List.append_nil] at hGr; exact hGr
  · have e1 : (lenE l.length 4 != 0) = true := by simpa using h0
    have HF : Hid (framesE l = lenE l.length 4) := by show framesE l = _; unfold framesE; rw [if_neg h0]
    have H0 := hide h0
    clear h0
    go_enter Tryd.func51, Tryd.ntmps51
    go_wp2_with (first | (go_at_call 73; refine (lengthError_c _ _ _).mono ?_; rintro e w1 ⟨rfl, hb1⟩))
    go_ret2
    exact ⟨.inl ⟨by rw [HF.out]; exact H0.out, by rw [HF.out]; rfl⟩, hb1⟩
end Go.Proofs.YtnigmdkhecblnaaDoor

/- Contracts: the blocks of a frame as an iterator. -/
namespace Go.Proofs.YtnigmdkhecblnaaDoor
open Go.RowKit
set_option maxRecDepth 100000

theorem blocks_c (gain limit : Int) (A G U : Option Addr) (n cA m c nU cU : Nat) (w : World) :
    Calls Tryd.prog 42 #[.agg #[.int .i64 gain, .int .i64 limit, .slice A n cA, .slice G m c, .slice U nU cU]] w fun r w' =>
      r = .returned (.func (.func 69) #[] #[.pointer (some ⟨w.heap.size, 0, none⟩)]) ∧ Blk w' w.heap.size 81 [.int .i64 gain, .int .i64 limit, .slice A n cA, .slice G m c, .slice U nU cU] ∧ Below w.heap.size w w' := by
  go_enter Tryd.func42, Tryd.ntmps42
  go_wp2
  go_ret
  exact ⟨rfl, Blk.new w _ [_, _, _, _, _], (Below.refl _ _).alloc (Nat.le_refl _) _⟩
end Go.Proofs.YtnigmdkhecblnaaDoor

