/- Contracts: lines of frames. -/
import Derived.Test.YtmedjedmeggbpaaDoorW15
import Derived.Test.YtmedjedmeggbpaaDoorW6
namespace Go.Proofs.YtmedjedmeggbpaaDoor
open Go.RowKit
set_option maxRecDepth 100000
attribute [local go_sem] run_store_complex

section
variable {w wx w1 : World} {n : Nat} {p0 p1 p2 p3 p4 p5 p6 : Addr} {v0 v1 v2 v3 v4 v5 v6 : Value}
theorem hold7_bel (h : wx.cell? p0 = some v0 ∧ wx.cell? p1 = some v1 ∧ wx.cell? p2 = some v2 ∧ wx.cell? p3 = some v3 ∧ wx.cell? p4 = some v4 ∧ wx.cell? p5 = some v5 ∧ wx.cell? p6 = some v6 ∧ Below n w wx) (hb : Below wx.heap.size wx w1) (hB : n ≤ wx.heap.size) :
    w1.cell? p0 = some v0 ∧ w1.cell? p1 = some v1 ∧ w1.cell? p2 = some v2 ∧ w1.cell? p3 = some v3 ∧ w1.cell? p4 = some v4 ∧ w1.cell? p5 = some v5 ∧ w1.cell? p6 = some v6 ∧ Below n w w1 := by
  obtain ⟨h0, h1, h2, h3, h4, h5, h6, hX⟩ := h
  exact ⟨(hb.cell (World.block_lt_of_cell? _ _ h0)).trans h0, (hb.cell (World.block_lt_of_cell? _ _ h1)).trans h1, (hb.cell (World.block_lt_of_cell? _ _ h2)).trans h2, (hb.cell (World.block_lt_of_cell? _ _ h3)).trans h3, (hb.cell (World.block_lt_of_cell? _ _ h4)).trans h4, (hb.cell (World.block_lt_of_cell? _ _ h5)).trans h5, (hb.cell (World.block_lt_of_cell? _ _ h6)).trans h6, hX.trans (hb.mono hB)⟩
theorem hold7_drew (h : wx.cell? p0 = some v0 ∧ wx.cell? p1 = some v1 ∧ wx.cell? p2 = some v2 ∧ wx.cell? p3 = some v3 ∧ wx.cell? p4 = some v4 ∧ wx.cell? p5 = some v5 ∧ wx.cell? p6 = some v6 ∧ Below n w wx) :
    wx.drew.cell? p0 = some v0 ∧ wx.drew.cell? p1 = some v1 ∧ wx.drew.cell? p2 = some v2 ∧ wx.drew.cell? p3 = some v3 ∧ wx.drew.cell? p4 = some v4 ∧ wx.drew.cell? p5 = some v5 ∧ wx.drew.cell? p6 = some v6 ∧ Below n w wx.drew := by
  obtain ⟨h0, h1, h2, h3, h4, h5, h6, hX⟩ := h
  exact ⟨h0, h1, h2, h3, h4, h5, h6, hX.drew⟩
theorem hold7_set {q : Addr} {u : Value} (h : wx.cell? p0 = some v0 ∧ wx.cell? p1 = some v1 ∧ wx.cell? p2 = some v2 ∧ wx.cell? p3 = some v3 ∧ wx.cell? p4 = some v4 ∧ wx.cell? p5 = some v5 ∧ wx.cell? p6 = some v6 ∧ Below n w wx) (n0 : p0.block ≠ q.block) (n1 : p1.block ≠ q.block) (n2 : p2.block ≠ q.block) (n3 : p3.block ≠ q.block) (n4 : p4.block ≠ q.block) (n5 : p5.block ≠ q.block) (n6 : p6.block ≠ q.block) (hq : n ≤ q.block) :
    (wx.setCell q u).cell? p0 = some v0 ∧ (wx.setCell q u).cell? p1 = some v1 ∧ (wx.setCell q u).cell? p2 = some v2 ∧ (wx.setCell q u).cell? p3 = some v3 ∧ (wx.setCell q u).cell? p4 = some v4 ∧ (wx.setCell q u).cell? p5 = some v5 ∧ (wx.setCell q u).cell? p6 = some v6 ∧ Below n w (wx.setCell q u) := by
  obtain ⟨h0, h1, h2, h3, h4, h5, h6, hX⟩ := h
  exact ⟨(World.cell?_of_block (Below.heap_setCell wx q u _ n0)).trans h0, (World.cell?_of_block (Below.heap_setCell wx q u _ n1)).trans h1, (World.cell?_of_block (Below.heap_setCell wx q u _ n2)).trans h2, (World.cell?_of_block (Below.heap_setCell wx q u _ n3)).trans h3, (World.cell?_of_block (Below.heap_setCell wx q u _ n4)).trans h4, (World.cell?_of_block (Below.heap_setCell wx q u _ n5)).trans h5, (World.cell?_of_block (Below.heap_setCell wx q u _ n6)).trans h6, hX.setCell hq u⟩
end

/-- The error of what is compressed. -/
def compE (gain limit : Int) (samples : List (Int × Int)) (gaps : List Int) (wave : List (Int × Int)) : Int := firstE [(frameE gain limit samples gaps).2, waveErr wave, errIf (decide (samples.length < wave.length)) 10]
theorem compE_zero {gain limit : Int} {samples wave : List (Int × Int)} {gaps : List Int} (h : compE gain limit samples gaps wave = 0) : (frameE gain limit samples gaps).2 = 0 ∧ waveErr wave = 0 ∧ wave.length ≤ samples.length := by
  unfold compE firstE at h
  by_cases h1 : (frameE gain limit samples gaps).2 = 0
  · rw [if_pos h1] at h
    unfold firstE at h
    by_cases h2 : waveErr wave = 0
    · rw [if_pos h2] at h
      refine ⟨h1, h2, ?_⟩
      by_cases h3 : samples.length < wave.length
      · rw [decide_eq_true h3] at h; simp [firstE, errIf] at h
      · omega
    · rw [if_neg h2] at h; exact absurd h h2
  · rw [if_neg h1] at h; exact absurd h h1

theorem checked_any (gain limit : Int) (A G : Option Addr) (cA c : Nat) (samples : List (Int × Int)) (gaps : List Int) (w : World) (hs : Rd w A (gs samples)) (hr : Rd w G (ints gaps)) (hn : samples.length ≤ 1000) (hg : gaps.length ≤ 1000) :
    Calls Tryd.prog 114 #[.agg #[.int .i64 gain, .int .i64 limit, .slice A samples.length cA, .slice G gaps.length c]] w fun r w' =>
      (∃ a b A2 n2 c2 G2 n3 c3 U2 n4 c4, r = .returned (.tuple #[.agg #[.int .i64 a, .int .i64 b, .slice A2 n2 c2, .slice G2 n3 c3, .slice U2 n4 c4], .int .i64 (frameE gain limit samples gaps).2])) ∧ Below w.heap.size w w' :=
  (checked_c gain limit A G cA c samples gaps w hs hr hn hg).mono fun r w' ⟨h, hb⟩ => by
    refine ⟨?_, hb⟩
    rcases h with ⟨_, rfl⟩ | ⟨h0, U, cU, rfl, _⟩
    · exact ⟨_, _, _, _, _, _, _, _, _, _, _, rfl⟩
    · rw [h0]; exact ⟨_, _, _, _, _, _, _, _, _, _, _, rfl⟩
theorem checked_ok (gain limit : Int) (A G : Option Addr) (cA c : Nat) (samples : List (Int × Int)) (gaps : List Int) (w : World) (hs : Rd w A (gs samples)) (hr : Rd w G (ints gaps)) (hn : samples.length ≤ 1000) (hg : gaps.length ≤ 1000) (h0 : (frameE gain limit samples gaps).2 = 0) :
    Calls Tryd.prog 114 #[.agg #[.int .i64 gain, .int .i64 limit, .slice A samples.length cA, .slice G gaps.length c]] w fun r w' =>
      (∃ U cU, r = .returned (.tuple #[.agg #[.int .i64 gain, .int .i64 limit, .slice A samples.length cA, .slice G gaps.length c, .slice U samples.length cU], .int .i64 0]) ∧ Rd w' U (bls (usableL limit samples gaps))) ∧ Below w.heap.size w w' :=
  (checked_c gain limit A G cA c samples gaps w hs hr hn hg).mono fun r w' ⟨h, hb⟩ => by
    refine ⟨?_, hb⟩
    rcases h with ⟨h, _⟩ | ⟨_, U, cU, h1, h2⟩
    · exact absurd h0 h
    · exact ⟨U, cU, h1, h2.1⟩

theorem checked_okT (gain limit : Int) (A G : Option Addr) (cA c : Nat) (samples : List (Int × Int)) (gaps : List Int) (w : World) (hs : Rd w A (gs samples)) (hr : Rd w G (ints gaps)) (hn : samples.length ≤ 1000) (hg : gaps.length ≤ 1000) (h0 : (frameE gain limit samples gaps).2 = 0) :
    Calls Tryd.prog 114 #[.agg #[.int .i64 gain, .int .i64 limit, .slice A samples.length cA, .slice G gaps.length c]] w fun r w' =>
      (∃ U cU, r = .returned (.tuple #[.agg #[.int .i64 gain, .int .i64 limit, .slice A samples.length cA, .slice G gaps.length c, .slice U samples.length cU], .int .i64 0]) ∧ RdT w' 4 U (bls (usableL limit samples gaps))) ∧ Below w.heap.size w w' :=
  (checked_c gain limit A G cA c samples gaps w hs hr hn hg).mono fun r w' ⟨h, hb⟩ => by
    refine ⟨?_, hb⟩
    rcases h with ⟨h, _⟩ | ⟨_, U, cU, h1, h2⟩
    · exact absurd h0 h
    · exact ⟨U, cU, h1, h2⟩

def compV (us : List Bool) (samples wave : List (Int × Int)) (n : Nat) : List (Int × Int) := (List.range n).map fun lag => compS us samples wave lag wave.length
def compMs (us : List Bool) (wave : List (Int × Int)) (n : Nat) : List Int := (List.range n).map fun lag => (compM us lag wave.length : Int)

theorem compressed_err (gain limit : Int) (A G B : Option Addr) (cA c cB : Nat) (samples wave : List (Int × Int)) (gaps : List Int) (w : World) (hT : Tab w) (hs : Rd w A (gs samples)) (hr : Rd w G (ints gaps)) (hv : Rd w B (gs wave)) (hn : samples.length ≤ 1000) (hg : gaps.length ≤ 1000) (hw : wave.length ≤ 1000)
    (hE : compE gain limit samples gaps wave ≠ 0) :
    Calls Tryd.prog 60 #[.agg #[.int .i64 gain, .int .i64 limit, .slice A samples.length cA, .slice G gaps.length c], .slice B wave.length cB] w fun r w' =>
      r = .returned (.tuple #[.agg #[.slice none 0 0, .slice none 0 0], .int .i64 (compE gain limit samples gaps wave)]) ∧ Below w.heap.size w w' := by
  have e1 : (compE gain limit samples gaps wave != 0) = true := by simpa using hE
  clear hE
  go_enter Tryd.func60, Tryd.ntmps60
  go_upto_region 1 with fail
  obtain ⟨W, hW⟩ : ∃ W, (w.alloc (.cells #[.int .i64 gain, .int .i64 limit, .slice A samples.length cA, .slice G gaps.length c] 81)).alloc (.cells #[.slice none 0 0, .slice none 0 0] 89) = W := ⟨_, rfl⟩
  have hsz : W.heap.size = w.heap.size + 2 := by rw [← hW]; simp
  have hB : Below w.heap.size w W := by rw [← hW]; exact ((Below.refl _ _).alloc (Nat.le_refl _) _).alloc (by simp) _
  have hX : Blk W w.heap.size 81 [.int .i64 gain, .int .i64 limit, .slice A samples.length cA, .slice G gaps.length c] := by
    rw [← hW]
    refine Blk.below (B := w.heap.size + 1) (Blk.new w _ [_, _, _, _]) ?_ (by omega)
    exact (Below.refl _ _).alloc (by simp) _
  have hR : Blk W (w.heap.size + 1) 89 [.slice none 0 0, .slice none 0 0] := by
    rw [← hW]
    have h0 := Blk.new (w.alloc (.cells #[.int .i64 gain, .int .i64 limit, .slice A samples.length cA, .slice G gaps.length c] 81)) 89 [.slice none 0 0, .slice none 0 0]
    rw [show (w.alloc (.cells #[.int .i64 gain, .int .i64 limit, .slice A samples.length cA, .slice G gaps.length c] 81)).heap.size = w.heap.size + 1 from by simp] at h0
    exact h0
  rw [hW]
  clear hW
  obtain ⟨p, hp⟩ : ∃ p, w.heap.size + 1 = p := ⟨_, rfl⟩
  rw [hp] at hR ⊢
  have c0 := hX.cell 0
  have c1 := hX.cell 1
  have c2 := hX.cell 2
  have c3 := hX.cell 3
  simp only [List.getElem?_cons_zero, List.getElem?_cons_succ] at c0 c1 c2 c3
  go_upto_region 2 with (first | (go_at_call 114; refine (checked_any gain limit A G cA c samples gaps _ (hs.bel hB) (hr.bel hB) hn hg).mono ?_; rintro e w1 ⟨⟨a1, b1, A2, n2, c2', G2, n3, c3', U2, n4, c4', rfl⟩, hb1⟩))
  generalize hV : w1.alloc (.cells #[.int .i64 a1, .int .i64 b1, .slice A2 n2 c2', .slice G2 n3 c3', .slice U2 n4 c4'] 158) = V
  have hBV : Below W.heap.size W V := by rw [← hV]; exact hb1.alloc hb1.size _
  have HS : Hid (V.cell? ⟨w.heap.size, 2, none⟩ = some (.slice A samples.length cA) ∧ Below W.heap.size W V) := ⟨(hBV.cell (p := ⟨w.heap.size, 2, none⟩) (by show w.heap.size < W.heap.size; omega)).trans c2, hBV⟩
  have hz0 : W.heap.size ≤ V.drew.heap.size := hBV.size
  have hwr : Rd V.drew B (gs wave) := (hv.bel hB).bel hBV.drew
  have hTV : Tab V.drew := (hT.bel hB).bel hBV.drew
  have HK := hide hR
  have HF : Hid (firstE [(frameE gain limit samples gaps).2, waveErr wave, errIf (decide (samples.length < wave.length)) 10] = compE gain limit samples gaps wave) := rfl
  clear hV c0 c1 c2 c3 hR hX
  generalize (frameE gain limit samples gaps).2 = fe at HF
  go_region_held3 (fun w' => w'.cell? ⟨w.heap.size, 2, none⟩ = some (.slice A samples.length cA) ∧ Below W.heap.size W w')
    (first | exact held_drew HS.out | exact held_bel (held_drew HS.out) hb2 hz0 | exact held_alloc (held_bel (held_drew HS.out) hb2 hz0) (Nat.le_trans hz0 hb2.size) _)
    (first
      | (go_at_call 117; refine (waveError_c wave B cB _ hTV hwr hw).mono ?_; rintro e w2 ⟨rfl, hb2⟩) | (go_at_call 93; refine (errorIf_c _ _ _).mono ?_; rintro e_ w_ ⟨rfl, rfl⟩) | (go_at_call 94; refine (outside_c _ _ _ _).mono ?_; rintro e_ w_ ⟨rfl, rfl⟩) | (go_at_call 92; refine (firstError_3 _ _ _ _).mono ?_; rintro e_ w_ ⟨rfl, rfl⟩))
  have hF := held_alloc (held_bel (held_drew HS.out) hb2 hz0) (Nat.le_trans hz0 hb2.size) (.cells #[.int .i64 fe, .int .i64 (waveErr wave), .int .i64 (errIf (decide (samples.length < wave.length)) 10)] 25)
  obtain ⟨V2, hV2⟩ : ∃ V2, w2.alloc (.cells #[.int .i64 fe, .int .i64 (waveErr wave), .int .i64 (errIf (decide (samples.length < wave.length)) 10)] 25) = V2 := ⟨_, rfl⟩
  rw [hV2] at hF ⊢
  have hBF := hF.2
  have hRf : Blk V2 p 89 _ := HK.out.below hBF (by omega)
  clear hV2 hF
  rw [HF.out]
  have d0 := hRf.cell 0
  have d1 := hRf.cell 1
  simp only [List.getElem?_cons_zero, List.getElem?_cons_succ] at d0 d1
  have k0 := hRf.frozen 0
  have k1 := hRf.frozen 1
  go_wp2
  obtain ⟨WE, hWE⟩ : ∃ WE, (V2.setCell ⟨p, 0, none⟩ (.slice none 0 0)).setCell ⟨p, 1, none⟩ (.slice none 0 0) = WE := ⟨_, rfl⟩
  rw [hWE]
  have hE : Blk WE p 89 [.slice none 0 0, .slice none 0 0] := by rw [← hWE]; exact (hRf.set_ 0 _).set_ 1 _
  have hBE : Below w.heap.size w WE := by
    have hX : Below w.heap.size w V2 := tr hB hBF (by omega)
    rw [← hWE]
    exact (hX.setCell (by show w.heap.size ≤ p; omega) _).setCell (by show w.heap.size ≤ p; omega) _
  have g0 := hE.cell 0
  have g1 := hE.cell 1
  simp only [List.getElem?_cons_zero, List.getElem?_cons_succ] at g0 g1
  clear hWE
  try simp only [Exit.inBlock, Exit.then]
  refine bodyPost_ret (by simp [results, Tryd.results60, go_sem, g0, g1]; try rfl) rfl ?_
  exact ⟨rfl, hBE⟩
end Go.Proofs.YtmedjedmeggbpaaDoor
