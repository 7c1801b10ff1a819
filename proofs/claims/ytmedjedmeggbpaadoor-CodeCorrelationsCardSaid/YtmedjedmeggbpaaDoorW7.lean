/- Contracts: waves of chirps. -/
import Derived.Test.YtmedjedmeggbpaaDoorW3
namespace Go.Proofs.YtmedjedmeggbpaaDoor
open Go.RowKit
set_option maxRecDepth 100000

/-- The table of the powers of i: block 0, eight cells. -/
def tabL : List Int := [1, 0, 0, 1, -1, 0, 0, -1]
def Tab (w : World) : Prop := 0 < w.heap.size ∧ ∀ i (h : i < 8), w.cell? ⟨0, i, none⟩ = some (.int .i64 (tabL[i]'h))
theorem Tab.bel {w w' : World} (h : Tab w) (hb : Below w.heap.size w w') : Tab w' := ⟨Nat.lt_of_lt_of_le h.1 hb.size, fun i hi => (hb.cell (p := ⟨0, i, none⟩) h.1).trans (h.2 i hi)⟩
theorem Tab.keep {S : Nat → Prop} {w w' : World} (h : Tab w) (hk : Keep S w w') (hS : S 0) : Tab w' := ⟨Nat.lt_of_lt_of_le h.1 hk.size, fun i hi => (hk.cell (p := ⟨0, i, none⟩) hS).trans (h.2 i hi)⟩

/-- i to the power of a number from 0 to 3. -/
def turnG (n : Nat) : Int × Int := (tabL.getD (2 * n) 0, tabL.getD (2 * n + 1) 0)
theorem Tab.at_ {w : World} (h : Tab w) (n : Nat) (hn : n < 4) : w.cell? ⟨0, n * 2, none⟩ = some (.int .i64 (turnG n).1) ∧ w.cell? ⟨0, n * 2 + 1, none⟩ = some (.int .i64 (turnG n).2) := by
  have h1 := h.2 (n * 2) (by omega)
  have h2 := h.2 (n * 2 + 1) (by omega)
  have e : n = 0 ∨ n = 1 ∨ n = 2 ∨ n = 3 := by omega
  rcases e with rfl | rfl | rfl | rfl <;> exact ⟨h1, h2⟩

/-- The phase of a chirp at a tick. -/
def phaseN (s n d : Int) : Nat → Nat
  | 0 => 0
  | t + 1 => ((phaseN s n d t + freq s n d t) % 4).toNat
theorem phaseN_lt (s n d : Int) (t : Nat) : phaseN s n d t < 4 := by
  cases t with
  | zero => simp [phaseN]
  | succ t => simp only [phaseN]; omega
def waveL (s n d : Int) (count : Nat) : List (Int × Int) := (List.range count).map fun t => turnG (phaseN s n d t)

theorem set_next {α : Type} (f : Nat → α) (z : α) (n k : Nat) (hk : k < n) : ((List.range k).map f ++ List.replicate (n - k) z).set k (f k) = (List.range (k + 1)).map f ++ List.replicate (n - (k + 1)) z := by
  have e : n - k = (n - (k + 1)) + 1 := by omega
  rw [e, List.replicate_succ, List.range_succ]
  simp

theorem Tryd.info76 : (Tryd.prog.info? 76).map (fun i => (i.zero, i.size, i.bytes)) = some (some (.agg #[.int .i64 0, .int .i64 0]), 2, 16) := by kernel_rfl

theorem gs_replicate (n : Nat) : gs (List.replicate n (0, 0)) = List.replicate (n * 2) (.int .i64 0) := by
  induction n with
  | zero => rfl
  | succ n ih => rw [List.replicate_succ, gs_cons, ih, show (n + 1) * 2 = n * 2 + 1 + 1 from by omega, List.replicate_succ, List.replicate_succ]
theorem madeCells_g (n : Nat) : (madeCells (Value.agg #[.int .i64 0, .int .i64 0]).cells (n * 2)).toList = gs (List.replicate n (0, 0)) := by
  rw [show (Value.agg #[.int .i64 0, .int .i64 0]).cells = #[.int .i64 0, .int .i64 0] from rfl, gs_replicate]
  simp [madeCells]
  refine List.ext_getElem (by simp) fun i h1 h2 => ?_
  have hm : i % 2 = 0 ∨ i % 2 = 1 := by omega
  rcases hm with h | h <;> simp [h]

/-- The error of a chirp with a number that must lie in a range. -/
def chirpNE (s n d k lo hi : Int) : Int := firstE [chirpE s n d, errIf (outB k lo hi) 2]
theorem chirpE_zero {s n d : Int} (h : chirpE s n d = 0) : 0 ≤ s ∧ s ≤ 100000 ∧ 0 ≤ n ∧ n ≤ 1000 ∧ 1 ≤ d ∧ d ≤ 1000 := by
  unfold chirpE at h
  split at h
  · omega
  · omega
theorem chirpNE_zero {s n d k lo hi : Int} (h : chirpNE s n d k lo hi = 0) : chirpE s n d = 0 ∧ lo ≤ k ∧ k ≤ hi := by
  unfold chirpNE firstE at h
  by_cases h1 : chirpE s n d = 0
  · rw [if_pos h1] at h
    refine ⟨h1, ?_⟩
    cases h2 : outB k lo hi
    · exact outB_false.1 h2
    · rw [h2] at h; simp [firstE, errIf] at h
  · rw [if_neg h1] at h; exact absurd h h1
theorem freq_bd {s n d t : Int} (h : chirpE s n d = 0) (h7 : 0 ≤ t) (h8 : t ≤ 1000000) : 0 ≤ freq s n d t ∧ freq s n d t ≤ 1000100000 := by
  obtain ⟨h1, h2, h3, h4, h5, h6⟩ := chirpE_zero h
  have hp : t * n ≤ 1000000 * 1000 := Int.mul_le_mul h8 h4 h3 (by omega)
  have hp0 : 0 ≤ t * n := Int.mul_nonneg h7 h3
  have hq0 : 0 ≤ t * n / d := Int.ediv_nonneg hp0 (by omega)
  have hq : t * n / d ≤ t * n := Int.ediv_le_self _ hp0
  unfold freq
  omega

theorem chirpWave_c (s n d count : Int) (w : World) (hT : Tab w) :
    Calls Tryd.prog 46 #[.agg #[.int .i64 s, .int .i64 n, .int .i64 d], .int .i64 count] w fun r w' =>
      ((chirpNE s n d count 1 32 ≠ 0 ∧ r = .returned (.tuple #[.slice none 0 0, .int .i64 (chirpNE s n d count 1 32)])) ∨
        (chirpNE s n d count 1 32 = 0 ∧ ∃ A c, r = .returned (.tuple #[.slice A (waveL s n d count.toNat).length c, .int .i64 0]) ∧ RdT w' 76 A (gs (waveL s n d count.toNat)))) ∧ Below w.heap.size w w' := by
  obtain ⟨i0, hi, iz0, iz1, iz2⟩ := info_parts Tryd.info76
  by_cases he : chirpNE s n d count 1 32 = 0
  · have e1 : (chirpNE s n d count 1 32 != 0) = false := by simpa using he
    obtain ⟨g0, g1, g2⟩ := chirpNE_zero he
    obtain ⟨count, rfl⟩ : ∃ k : Nat, count = (k : Int) := ⟨count.toNat, by omega⟩
    rw [Int.toNat_natCast]
    have HE := hide he
    have HC := hide g0
    clear he g0
    have e2 : (firstE [chirpE s n d, errIf (outB count 1 32) 2] != 0) = false := e1
    clear e1
    go_enter Tryd.func46, Tryd.ntmps46
    go_wp2_with (first
      | (go_at_call 48; refine (checkChirp_c _ _ _ _).mono ?_; rintro e w1 ⟨rfl, hb1⟩)
      | (go_at_call 93; refine (errorIf_c _ _ _).mono ?_; rintro e_ w_ ⟨rfl, rfl⟩) | (go_at_call 94; refine (outside_c _ _ _ _).mono ?_; rintro e_ w_ ⟨rfl, rfl⟩) | (go_at_call 92; refine (firstError_2 _ _ _).mono ?_; rintro e_ w_ ⟨rfl, rfl⟩)
      | (at_make; refine wpList_make_full _ rfl _ _ 30 rfl w.heap.size 76 i0 _ 2 Tryd.underlying30 hi iz0 iz1 _ _ _ _ count rfl rfl rfl rfl (by rw [iz2]; omega) (by simp only [maxLen]; omega) (by have := hb1.size; simp at this ⊢; omega) ?_; intro w2 hown2 hg2))
    have hsz1 : w.heap.size + 1 ≤ w1.heap.size := by have := hb1.size; simpa using this
    have hB2 : Blk w2 (w1.heap.size + 1) 76 (gs (List.replicate count (0, 0))) := by
      rw [madeCells_g] at hown2
      exact Blk.of_own (by simpa using hown2)
    have hbel2 : Below w.heap.size w w2 := ((tr ((Below.refl _ _).alloc (Nat.le_refl _) _) hb1 (by simp)).alloc (by omega) _).grown hg2 (by simp; omega) (by simp)
    have hb12 : Below w1.heap.size w1 w2 := ((Below.refl _ _).alloc (Nat.le_refl _) _).grown hg2 (by simp) (by simp)
    have hcell : ∀ j v, (#[.int .i64 s, .int .i64 n, .int .i64 d] : Array Value)[j]? = some v → w2.cell? ⟨w.heap.size, j, none⟩ = some v := fun j v hv => by
      refine (hb12.cell (p := ⟨w.heap.size, j, none⟩) (by show w.heap.size < w1.heap.size; omega)).trans ((hb1.cell (p := ⟨w.heap.size, j, none⟩) (by simp)).trans ?_)
      rw [cell_of_row _ _ j _ _ (0, 0) (heap_alloc_new w _)]
      exact hv
    have hc0 := hcell 0 _ rfl
    have hc1 := hcell 1 _ rfl
    have hc2 := hcell 2 _ rfl
    clear hown2 hg2 hcell hb12
    obtain ⟨g, hg⟩ : ∃ g, w1.heap.size + 1 = g := ⟨_, rfl⟩
    rw [hg] at hB2 ⊢
    have hgw : w.heap.size < g := by omega
    clear hg hsz1 hb1
    have hT2 : Tab w2 := hT.bel hbel2
    have h0g : 0 < g := by omega
    have hCz := HC.out
    obtain ⟨q1, q2, q3, q4, q5, q6⟩ := chirpE_zero hCz
    have hgz : g < w2.heap.size := hB2.lt
    clear hCz
    go_loopw [8, 23] (fun ph i wr => ∃ k : Nat, k ≤ count ∧ i = .int .i64 k ∧ ph = .int .i64 (phaseN s n d k) ∧ Below g w2 wr ∧ Blk wr g 76 (gs (waveL s n d k ++ List.replicate (count - k) (0, 0)))) (fun _ i _ => count - (intOf i).toNat)
    case atStart => exact ⟨0, Nat.zero_le _, rfl, rfl, Below.refl _ _, hB2⟩
    case round =>
      obtain ⟨k, hk, rfl, rfl, hbr, hBr⟩ := hrel
      by_cases hlt : k < count
      · have hph := phaseN_lt s n d k
        have hTr : Tab wr := ⟨by have := hbr.size; omega, fun i hi => (hbr.cell (p := ⟨0, i, none⟩) h0g).trans (hT2.2 i hi)⟩
        obtain ⟨t1, t2⟩ := hTr.at_ _ hph
        have hgr : g < wr.heap.size := hBr.lt
        obtain ⟨z1, z2⟩ := hBr.g_at (k := k) (g := (0, 0)) (by simp [waveL, show 0 < count - k from by omega])
        have zf1 := hBr.frozen (k * 2)
        have zf2 := hBr.frozen (k * 2 + 1)
        have hset := hide (hBr.setG (k := k) (g := turnG (phaseN s n d k)) (by simp [waveL]; omega))
        have HPH : Hid (phaseN s n d (k + 1) = ((phaseN s n d k + freq s n d k) % 4).toNat) := rfl
        have HW : Hid (waveL s n d (k + 1) ++ List.replicate (count - (k + 1)) (0, 0) = (waveL s n d k ++ List.replicate (count - k) (0, 0)).set k (turnG (phaseN s n d k))) := (set_next _ _ _ _ hlt).symm
        generalize phaseN s n d k = ph at hph t1 t2 hset HPH HW
        generalize turnG ph = tg at t1 t2 hset HW
        have r0 : wr.cell? ⟨w.heap.size, 0, none⟩ = some (.int .i64 s) := (hbr.cell (p := ⟨w.heap.size, 0, none⟩) hgw).trans hc0
        have r1 : wr.cell? ⟨w.heap.size, 1, none⟩ = some (.int .i64 n) := (hbr.cell (p := ⟨w.heap.size, 1, none⟩) hgw).trans hc1
        have r2 : wr.cell? ⟨w.heap.size, 2, none⟩ = some (.int .i64 d) := (hbr.cell (p := ⟨w.heap.size, 2, none⟩) hgw).trans hc2
        have ne1 : ¬ w.heap.size = g := by omega
        have ne2 : ¬ g = w.heap.size := by omega
        obtain ⟨f1, f2⟩ := freq_bd (t := k) HC.out (by omega) (by omega)
        go_wp2_with (go_at_call 108; refine (frequency_c s n d k _ q1 q2 q3 q4 q5 q6 (by omega) (by omega)).mono ?_; rintro e w3 ⟨rfl, hb3⟩)
        have hsz3 : g < w3.heap.size := by have := hb3.size; simp at this; omega
        have hB3 := (hset.out.bel hb3)
        have hb3' : Below g wr w3 := (((Below.refl g wr).setCell (p := ⟨g, k * 2, none⟩) (Nat.le_refl _) _).setCell (p := ⟨g, k * 2 + 1, none⟩) (Nat.le_refl _) _).trans (hb3.mono (by simp; omega))
        go_roundw
        case rel =>
          refine ⟨k + 1, by omega, by go_num, ?_, hbr.trans hb3', ?_⟩
          · rw [HPH.out]; simp; omega
          · rw [HW.out]; exact hB3
        case measure => simp [intOf]; omega
      · obtain rfl : k = count := by omega
        go_wp2
        go_ret2
        rw [Nat.sub_self] at hBr
        refine ⟨.inr ⟨HE.out, _, _, by rw [show (waveL s n d k).length = k from by simp [waveL]]; rfl, hBr.rdT (by simp)⟩, hbel2.trans (hbr.mono (by omega))⟩
  · have e1 : (chirpNE s n d count 1 32 != 0) = true := by simpa using he
    have HE := hide he
    clear he
    have e2 : (firstE [chirpE s n d, errIf (outB count 1 32) 2] != 0) = true := e1
    clear e1
    go_enter Tryd.func46, Tryd.ntmps46
    go_wp2_with (first
      | (go_at_call 48; refine (checkChirp_c _ _ _ _).mono ?_; rintro e w1 ⟨rfl, hb1⟩)
      | (go_at_call 93; refine (errorIf_c _ _ _).mono ?_; rintro e_ w_ ⟨rfl, rfl⟩) | (go_at_call 94; refine (outside_c _ _ _ _).mono ?_; rintro e_ w_ ⟨rfl, rfl⟩) | (go_at_call 92; refine (firstError_2 _ _ _).mono ?_; rintro e_ w_ ⟨rfl, rfl⟩))
    go_ret2
    exact ⟨.inl ⟨HE.out, rfl⟩, (tr ((Below.refl _ _).alloc (Nat.le_refl _) _) hb1 (by simp)).alloc (by have := hb1.size; simp at this; omega) _⟩
end Go.Proofs.YtmedjedmeggbpaaDoor
