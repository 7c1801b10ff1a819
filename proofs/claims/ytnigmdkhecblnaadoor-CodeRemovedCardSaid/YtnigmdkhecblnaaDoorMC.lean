/- A group of texts (tools/groups.txt): W7 Frame W8 W9 Hold App. No condition but those that each says. -/
import Derived.Test.YtnigmdkhecblnaaDoorMB
import Derived.Test.YtnigmdkhecblnaaDoorMA
import Derived.Deep.DeepCutAuto
import Derived.Maps.AppendAt
import Derived.Deep.AppendLies
import Derived.Laws.OwnMore
set_option linter.unusedSimpArgs false
set_option linter.unusedVariables false
/- Contracts: waves of chirps. -/
namespace Go.Proofs.YtnigmdkhecblnaaDoor
open Go.RowKit
set_option maxRecDepth 100000

/-- The table of the powers of i: block 0, eight cells. -/
def tabL : List Int := [1, 0, 0, 1, -1, 0, 0, -1]
def Tab (w : World) : Prop := 0 < w.heap.size ∧ ∀ i (h : i < 8), w.cell? ⟨0, i, none⟩ = some (.int .i64 (tabL[i]'h))
theorem Tab.bel {w w' : World} (h : Tab w) (hb : Below w.heap.size w w') : Tab w' := ⟨Nat.lt_of_lt_of_le h.1 hb.size, fun i hi => (hb.cell (p := ⟨0, i, none⟩) h.1).trans (h.2 i hi)⟩
theorem Tab.keep {S : Nat → Prop} {w w' : World} (h : Tab w) (hk : Keep S w w') (hS : S 0) : Tab w' := ⟨Nat.lt_of_lt_of_le h.1 hk.size, fun i hi => (hk.cell (p := ⟨0, i, none⟩) hS).trans (h.2 i hi)⟩

/-- i to the power of a number from 0 to 3. -/
def turnG (n : Nat) : Int × Int := (tabL.getD (2 * n) 0, tabL.getD (2 * n + 1) 0)
theorem Tab.at_ {w : World} (h : Tab w) (n : Nat) (hn : n < 4) : w.cell? ⟨0, n * 2, none⟩ = some (.int .i64 (turnG n).1) ∧ w.cell? ⟨0, n * 2 + 1, none⟩ = some (.int .i64 (turnG n).2) := by
  have h1 := h.2 (n * 2) (by omega)
  have h2 := h.2 (n * 2 + 1) (by omega)
  have e : n = 0 ∨ n = 1 ∨ n = 2 ∨ n = 3 := by omega
  rcases e with rfl | rfl | rfl | rfl <;> exact ⟨h1, h2⟩

/-- The phase of a chirp at a tick. -/
def phaseN (s n d : Int) : Nat → Nat
  | 0 => 0
  | t + 1 => ((phaseN s n d t + freq s n d t) % 4).toNat
theorem phaseN_lt (s n d : Int) (t : Nat) : phaseN s n d t < 4 := by
  cases t with
  | zero => simp [phaseN]
  | succ t => simp only [phaseN]; omega
def waveL (s n d : Int) (count : Nat) : List (Int × Int) := (List.range count).map fun t => turnG (phaseN s n d t)

theorem set_next {α : Type} (f : Nat → α) (z : α) (n k : Nat) (hk : k < n) : ((List.range k).map f ++ List.replicate (n - k) z).set k (f k) = (List.range (k + 1)).map f ++ List.replicate (n - (k + 1)) z := by
  have e : n - k = (n - (k + 1)) + 1 := by omega
  rw [e, List.replicate_succ, List.range_succ]
  simp

theorem Tryd.info76 : (Tryd.prog.info? 47).map (fun i => (i.zero, i.size, i.bytes)) = some (some (.agg #[.int .i64 0, .int .i64 0]), 2, 16) := by kernel_rfl

theorem gs_replicate (n : Nat) : gs (List.replicate n (0, 0)) = List.replicate (n * 2) (.int .i64 0) := by
  induction n with
  | zero => rfl
  | succ n ih => rw [List.replicate_succ, gs_cons, ih, show (n + 1) * 2 = n * 2 + 1 + 1 from by omega, List.replicate_succ, List.replicate_succ]
theorem madeCells_g (n : Nat) : (madeCells (Value.agg #[.int .i64 0, .int .i64 0]).cells (n * 2)).toList = gs (List.replicate n (0, 0)) := by
  rw [show (Value.agg #[.int .i64 0, .int .i64 0]).cells = #[.int .i64 0, .int .i64 0] from rfl, gs_replicate]
  simp [madeCells]
  refine List.ext_getElem (by simp) fun i h1 h2 => ?_
  have hm : i % 2 = 0 ∨ i % 2 = 1 := by omega
  rcases hm with h | h <;> simp [h]

/-- The error of a chirp with a number that must lie in a range. -/
def chirpNE (s n d k lo hi : Int) : Int := firstE [chirpE s n d, errIf (outB k lo hi) 2]
theorem chirpE_zero {s n d : Int} (h : chirpE s n d = 0) : 0 ≤ s ∧ s ≤ 100000 ∧ 0 ≤ n ∧ n ≤ 1000 ∧ 1 ≤ d ∧ d ≤ 1000 := by
  unfold chirpE at h
  split at h
  · omega
  · omega
theorem chirpNE_zero {s n d k lo hi : Int} (h : chirpNE s n d k lo hi = 0) : chirpE s n d = 0 ∧ lo ≤ k ∧ k ≤ hi := by
  unfold chirpNE firstE at h
  by_cases h1 : chirpE s n d = 0
  · rw [if_pos h1] at h
    refine ⟨h1, ?_⟩
    cases h2 : outB k lo hi
    · exact outB_false.1 h2
    · rw [h2] at h; simp [firstE, errIf] at h
  · rw [if_neg h1] at h; exact absurd h h1
theorem freq_bd {s n d t : Int} (h : chirpE s n d = 0) (h7 : 0 ≤ t) (h8 : t ≤ 1000000) : 0 ≤ freq s n d t ∧ freq s n d t ≤ 1000100000 := by
  obtain ⟨h1, h2, h3, h4, h5, h6⟩ := chirpE_zero h
  have hp : t * n ≤ 1000000 * 1000 := Int.mul_le_mul h8 h4 h3 (by omega)
  have hp0 : 0 ≤ t * n := Int.mul_nonneg h7 h3
  have hq0 : 0 ≤ t * n / d := Int.ediv_nonneg hp0 (by omega)
  have hq : t * n / d ≤ t * n := Int.ediv_le_self _ hp0
  unfold freq
  omega

theorem chirpWave_c (s n d count : Int) (w : World) (hT : Tab w) :
    Calls Tryd.prog 32 #[.agg #[.int .i64 s, .int .i64 n, .int .i64 d], .int .i64 count] w fun r w' =>
      ((chirpNE s n d count 1 32 ≠ 0 ∧ r = .returned (.tuple #[.slice none 0 0, .int .i64 (chirpNE s n d count 1 32)])) ∨
        (chirpNE s n d count 1 32 = 0 ∧ ∃ A c, r = .returned (.tuple #[.slice A (waveL s n d count.toNat).length c, .int .i64 0]) ∧ RdT w' 47 A (gs (waveL s n d count.toNat)))) ∧ Below w.heap.size w w' := by
  obtain ⟨i0, hi, iz0, iz1, iz2⟩ := info_parts Tryd.info76
  by_cases he : chirpNE s n d count 1 32 = 0
  · have e1 : (chirpNE s n d count 1 32 != 0) = false := by simpa using he
    obtain ⟨g0, g1, g2⟩ := chirpNE_zero he
    obtain ⟨count, rfl⟩ : ∃ k : Nat, count = (k : Int) := ⟨count.toNat, by omega⟩
    rw [Int.toNat_natCast]
    have HE := hide he
    have HC := hide g0
    clear he g0
    have e2 : (firstE [chirpE s n d, errIf (outB count 1 32) 2] != 0) = false := e1
    clear e1
    go_enter Tryd.func32, Tryd.ntmps32
    go_wp2_with (first
      | (go_at_call 59; refine (checkChirp_c _ _ _ _).mono ?_; rintro e w1 ⟨rfl, hb1⟩)
      | (go_at_call 41; refine (errorIf_c _ _ _).mono ?_; rintro e_ w_ ⟨rfl, rfl⟩) | (go_at_call 60; refine (outside_c _ _ _ _).mono ?_; rintro e_ w_ ⟨rfl, rfl⟩) | (go_at_call 39; refine (firstError_2 _ _ _).mono ?_; rintro e_ w_ ⟨rfl, rfl⟩)
      | (at_make; refine wpList_make_full _ rfl _ _ 22 rfl w.heap.size 47 i0 _ 2 Tryd.underlying22 hi iz0 iz1 _ _ _ _ count rfl rfl rfl rfl (by rw [iz2]; omega) (by simp only [maxLen]; omega) (by have := hb1.size; simp at this ⊢; omega) ?_; intro w2 hown2 hg2))
    have hsz1 : w.heap.size + 1 ≤ w1.heap.size := by have := hb1.size; simpa using this
    have hB2 : Blk w2 (w1.heap.size + 1) 47 (gs (List.replicate count (0, 0))) := by
      rw [madeCells_g] at hown2
      exact Blk.of_own (by simpa using hown2)
    have hbel2 : Below w.heap.size w w2 := ((tr ((Below.refl _ _).alloc (Nat.le_refl _) _) hb1 (by simp)).alloc (by omega) _).grown hg2 (by simp; omega) (by simp)
    have hb12 : Below w1.heap.size w1 w2 := ((Below.refl _ _).alloc (Nat.le_refl _) _).grown hg2 (by simp) (by simp)
    have hcell : ∀ j v, (#[.int .i64 s, .int .i64 n, .int .i64 d] : Array Value)[j]? = some v → w2.cell? ⟨w.heap.size, j, none⟩ = some v := fun j v hv => by
      refine (hb12.cell (p := ⟨w.heap.size, j, none⟩) (by show w.heap.size < w1.heap.size; omega)).trans ((hb1.cell (p := ⟨w.heap.size, j, none⟩) (by simp)).trans ?_)
      rw [cell_of_row _ _ j _ _ (0, 0) (heap_alloc_new w _)]
      exact hv
    have hc0 := hcell 0 _ rfl
    have hc1 := hcell 1 _ rfl
    have hc2 := hcell 2 _ rfl
    clear hown2 hg2 hcell hb12
    obtain ⟨g, hg⟩ : ∃ g, w1.heap.size + 1 = g := ⟨_, rfl⟩
    rw [hg] at hB2 ⊢
    have hgw : w.heap.size < g := by omega
    clear hg hsz1 hb1
    have hT2 : Tab w2 := hT.bel hbel2
    have h0g : 0 < g := by omega
    have hCz := HC.out
    obtain ⟨q1, q2, q3, q4, q5, q6⟩ := chirpE_zero hCz
    have hgz : g < w2.heap.size := hB2.lt
    clear hCz
    go_loopw [8, 23] (fun ph i wr => ∃ k : Nat, k ≤ count ∧ i = .int .i64 k ∧ ph = .int .i64 (phaseN s n d k) ∧ Below g w2 wr ∧ Blk wr g 47 (gs (waveL s n d k ++ List.replicate (count - k) (0, 0)))) (fun _ i _ => count - (intOf i).toNat)
    case atStart => exact ⟨0, Nat.zero_le _, rfl, rfl, Below.refl _ _, hB2⟩
    case round =>
      obtain ⟨k, hk, rfl, rfl, hbr, hBr⟩ := hrel
      by_cases hlt : k < count
      · have hph := phaseN_lt s n d k
        have hTr : Tab wr := ⟨by have := hbr.size; omega, fun i hi => (hbr.cell (p := ⟨0, i, none⟩) h0g).trans (hT2.2 i hi)⟩
        obtain ⟨t1, t2⟩ := hTr.at_ _ hph
        have hgr : g < wr.heap.size := hBr.lt
        obtain ⟨z1, z2⟩ := hBr.g_at (k := k) (g := (0, 0)) (by simp [waveL, show 0 < count - k from by omega])
        have zf1 := hBr.frozen (k * 2)
        have zf2 := hBr.frozen (k * 2 + 1)
        have hset := hide (hBr.setG (k := k) (g := turnG (phaseN s n d k)) (by simp [waveL]; omega))
        have HPH : Hid (phaseN s n d (k + 1) = ((phaseN s n d k + freq s n d k) % 4).toNat) := rfl
        have HW : Hid (waveL s n d (k + 1) ++ List.replicate (count - (k + 1)) (0, 0) = (waveL s n d k ++ List.replicate (count - k) (0, 0)).set k (turnG (phaseN s n d k))) := (set_next _ _ _ _ hlt).symm
        generalize phaseN s n d k = ph at hph t1 t2 hset HPH HW
        generalize turnG ph = tg at t1 t2 hset HW
        have r0 : wr.cell? ⟨w.heap.size, 0, none⟩ = some (.int .i64 s) := (hbr.cell (p := ⟨w.heap.size, 0, none⟩) hgw).trans hc0
        have r1 : wr.cell? ⟨w.heap.size, 1, none⟩ = some (.int .i64 n) := (hbr.cell (p := ⟨w.heap.size, 1, none⟩) hgw).trans hc1
        have r2 : wr.cell? ⟨w.heap.size, 2, none⟩ = some (.int .i64 d) := (hbr.cell (p := ⟨w.heap.size, 2, none⟩) hgw).trans hc2
        have ne1 : ¬ w.heap.size = g := by omega
        have ne2 : ¬ g = w.heap.size := by omega
        obtain ⟨f1, f2⟩ := freq_bd (t := k) HC.out (by omega) (by omega)
        go_wp2_with (go_at_call 61; refine (frequency_c s n d k _ q1 q2 q3 q4 q5 q6 (by omega) (by omega)).mono ?_; rintro e w3 ⟨rfl, hb3⟩)
        have hsz3 : g < w3.heap.size := by have := hb3.size; simp at this; omega
        have hB3 := (hset.out.bel hb3)
        have hb3' : Below g wr w3 := (((Below.refl g wr).setCell (p := ⟨g, k * 2, none⟩) (Nat.le_refl _) _).setCell (p := ⟨g, k * 2 + 1, none⟩) (Nat.le_refl _) _).trans (hb3.mono (by simp; omega))
        go_roundw
        case rel =>
          refine ⟨k + 1, by omega, by go_num, ?_, hbr.trans hb3', ?_⟩
          · rw [HPH.out]; simp; omega
          · rw [HW.out]; exact hB3
        case measure => simp [intOf]; omega
      · obtain rfl : k = count := by omega
        go_wp2
        go_ret2
        rw [Nat.sub_self] at hBr
        refine ⟨.inr ⟨HE.out, _, _, by rw [show (waveL s n d k).length = k from by simp [waveL]]; rfl, hBr.rdT (by simp)⟩, hbel2.trans (hbr.mono (by omega))⟩
  · have e1 : (chirpNE s n d count 1 32 != 0) = true := by simpa using he
    have HE := hide he
    clear he
    have e2 : (firstE [chirpE s n d, errIf (outB count 1 32) 2] != 0) = true := e1
    clear e1
    go_enter Tryd.func32, Tryd.ntmps32
    go_wp2_with (first
      | (go_at_call 59; refine (checkChirp_c _ _ _ _).mono ?_; rintro e w1 ⟨rfl, hb1⟩)
      | (go_at_call 41; refine (errorIf_c _ _ _).mono ?_; rintro e_ w_ ⟨rfl, rfl⟩) | (go_at_call 60; refine (outside_c _ _ _ _).mono ?_; rintro e_ w_ ⟨rfl, rfl⟩) | (go_at_call 39; refine (firstError_2 _ _ _).mono ?_; rintro e_ w_ ⟨rfl, rfl⟩))
    go_ret2
    exact ⟨.inl ⟨HE.out, rfl⟩, (tr ((Below.refl _ _).alloc (Nat.le_refl _) _) hb1 (by simp)).alloc (by have := hb1.size; simp at this; omega) _⟩
end Go.Proofs.YtnigmdkhecblnaaDoor

/- Frames as plain data: their error, which samples are usable. No condition. -/
namespace Go.Proofs.YtnigmdkhecblnaaDoor

/-- A part of a number beyond a limit. -/
def beyB (g : G) (limit : Int) : Bool := outB g.1 (-limit) limit || outB g.2 (-limit) limit
def sampleE (limit : Int) (g : G) : Int := errIf (beyB g limit) 2
def gapE (n : Nat) (gaps : List Int) (k : Nat) (gap : Int) : Int := firstE [errIf (outB gap 0 ((n : Int) - 1)) 6, errIf (decide (0 < k) && decide (gap ≤ gaps.getD (k - 1) 0)) 9]
/-- The error of what precedes the samples. -/
def headE (gain limit : Int) (n : Nat) : Int := firstE [errIf (outB gain (-8) 8) 2, errIf (outB limit 1 2000000) 2, lenE n 64]
/-- The index and the error of a frame. -/
def frameE (gain limit : Int) (samples : List G) (gaps : List Int) : Int × Int :=
  if headE gain limit samples.length = 0 then
    if (firstBadFrom (fun _ g => sampleE limit g) 0 samples).2 = 0 then firstBadFrom (gapE samples.length gaps) 0 gaps
    else firstBadFrom (fun _ g => sampleE limit g) 0 samples
  else (0, headE gain limit samples.length)

theorem headE_zero {gain limit : Int} {n : Nat} (h : headE gain limit n = 0) : -8 ≤ gain ∧ gain ≤ 8 ∧ 1 ≤ limit ∧ limit ≤ 2000000 ∧ 1 ≤ n ∧ n ≤ 64 := by
  unfold headE at h
  cases h1 : outB gain (-8) 8
  · cases h2 : outB limit 1 2000000
    · rw [h1, h2] at h
      simp only [firstE, errIf, Bool.false_eq_true, if_false, if_true] at h
      have h3 : lenE n 64 = 0 := by
        by_cases h3 : lenE n 64 = 0
        · exact h3
        · rw [if_neg h3] at h; exact h
      rw [lenE_eq] at h3
      have g1 := outB_false.1 h1
      have g2 := outB_false.1 h2
      refine ⟨g1.1, g1.2, g2.1, g2.2, ?_, ?_⟩
      · split at h3 <;> omega
      · split at h3
        · omega
        · split at h3 <;> omega
    · rw [h1, h2] at h; simp [firstE, errIf] at h
  · rw [h1] at h; simp [firstE, errIf] at h

theorem firstBadFrom_zero {α : Type} {chk : Nat → α → Int} {l : List α} {k : Nat} (h : (firstBadFrom chk k l).2 = 0) : ∀ i (hi : i < l.length), chk (k + i) l[i] = 0 := by
  intro i
  induction i using Nat.strongRecOn with
  | _ i ih =>
    intro hi
    by_cases hz : chk (k + i) l[i] = 0
    · exact hz
    · have := firstBadFrom_some chk l k i hi (fun j hj => ih j hj (by omega)) hz
      rw [this] at h
      exact h
theorem sampleE_zero {limit : Int} {g : G} (h : sampleE limit g = 0) : -limit ≤ g.1 ∧ g.1 ≤ limit ∧ -limit ≤ g.2 ∧ g.2 ≤ limit := by
  unfold sampleE beyB at h
  cases h1 : outB g.1 (-limit) limit
  · cases h2 : outB g.2 (-limit) limit
    · have g1 := outB_false.1 h1
      have g2 := outB_false.1 h2
      exact ⟨g1.1, g1.2, g2.1, g2.2⟩
    · rw [h1, h2] at h; simp [errIf] at h
  · rw [h1] at h; simp [errIf] at h
theorem gapE_zero {n : Nat} {gaps : List Int} {k : Nat} {gap : Int} (h : gapE n gaps k gap = 0) : 0 ≤ gap ∧ gap ≤ (n : Int) - 1 := by
  unfold gapE at h
  cases h1 : outB gap 0 ((n : Int) - 1)
  · exact outB_false.1 h1
  · rw [h1] at h; simp [firstE, errIf] at h

/-- What a valid frame is. -/
theorem frameE_zero {gain limit : Int} {samples : List G} {gaps : List Int} (h : (frameE gain limit samples gaps).2 = 0) :
    headE gain limit samples.length = 0 ∧ (∀ g ∈ samples, -limit ≤ g.1 ∧ g.1 ≤ limit ∧ -limit ≤ g.2 ∧ g.2 ≤ limit) ∧ ∀ x ∈ gaps, 0 ≤ x ∧ x < samples.length := by
  unfold frameE at h
  by_cases h1 : headE gain limit samples.length = 0
  · rw [if_pos h1] at h
    by_cases h2 : (firstBadFrom (fun _ g => sampleE limit g) 0 samples).2 = 0
    · rw [if_pos h2] at h
      refine ⟨h1, fun g hg => ?_, fun x hx => ?_⟩
      · obtain ⟨i, hi, rfl⟩ := List.getElem_of_mem hg
        exact sampleE_zero (firstBadFrom_zero h2 i hi)
      · obtain ⟨i, hi, rfl⟩ := List.getElem_of_mem hx
        have := gapE_zero (firstBadFrom_zero h i hi)
        omega
    · rw [if_neg h2] at h; exact absurd h h2
  · rw [if_neg h1] at h; exact absurd h h1

/-- Whether sample number i of a valid frame is usable. -/
def usableB (limit : Int) (samples : List G) (gaps : List Int) (i : Nat) : Bool := !(beyB (samples.getD i (0, 0)) (limit - 1)) && !(gaps.contains (i : Int))
end Go.Proofs.YtnigmdkhecblnaaDoor

/- Contracts: frames. -/
namespace Go.Proofs.YtnigmdkhecblnaaDoor
open Go.RowKit
set_option maxRecDepth 100000

/-- firstBad at whole complex numbers. -/
theorem firstBadG_c (chk : Nat → G → Int) (f : FuncId) (l : List G) (A : Option Addr) (c : Nat) (cap : Array Value) (w : World) (hr : Rd w A (gs l)) (hl : l.length ≤ 1000)
    (hE : ∀ (args : Array Value) (W : World), (callFunc f args).run Tryd.prog W = .ok (.enter f args) W)
    (hchk : ∀ (k : Nat) (h : k < l.length) (W : World), Below w.heap.size w W → Calls Tryd.prog f (#[.int .i64 k, .agg #[.int .i64 l[k].1, .int .i64 l[k].2]] ++ cap) W fun r W' => r = .returned (.int .i64 (chk k l[k])) ∧ Below W.heap.size W W') :
    Calls Tryd.prog 79 #[.slice A l.length c, .func (.func f) #[] cap] w fun r w' => r = .returned (.tuple #[.int .i64 (firstBadFrom chk 0 l).1, .int .i64 (firstBadFrom chk 0 l).2]) ∧ Below w.heap.size w w' := by
  have HC := hide hchk
  clear hchk
  go_enter Tryd.func79, Tryd.ntmps79
  go_wp2
  go_loopw [11] (fun i wr => ∃ k : Nat, k ≤ l.length ∧ i = .int .i64 k ∧ Below w.heap.size w wr ∧ Hid (∀ j (h : j < l.length), j < k → chk j l[j] = 0)) (fun i _ => l.length - (intOf i).toNat)
  case atStart => exact ⟨0, Nat.zero_le _, rfl, Below.refl _ _, fun _ _ h => by omega⟩
  case round =>
    obtain ⟨k, hk, rfl, hb, h0⟩ := hrel
    by_cases hlt : k < l.length
    · obtain ⟨b, off, rfl, hblt, hc0, hc1⟩ := (hr.bel hb).g_at hlt
      by_cases hz : chk k l[k] = 0
      · have H1 : Hid (∀ j (h : j < l.length), j < k + 1 → chk j l[j] = 0) := fun j h hj => by
          by_cases e : j = k
          · subst e; exact hz
          · exact h0.out j h (by omega)
        go_wp2_with (refine (HC.out k hlt _ (hb.alloc hb.size _)).mono ?_; rintro e w' ⟨rfl, hb1⟩)
        go_roundw
        case rel => exact ⟨k + 1, by omega, by go_num, tr (hb.alloc hb.size _) hb1 (by have := hb.size; simp; omega), H1⟩
        case measure => simp [intOf]; omega
      · have H1 : Hid (firstBadFrom chk 0 l = ((k : Int), chk k l[k])) := by
          have := firstBadFrom_some chk l 0 k hlt (fun i hi => by simpa using h0.out i (by omega) hi) (by simpa using hz)
          show firstBadFrom chk 0 l = _; simpa using this
        go_wp2_with (refine (HC.out k hlt _ (hb.alloc hb.size _)).mono ?_; rintro e w' ⟨rfl, hb1⟩)
        go_ret2
        exact ⟨by rw [H1.out]; rfl, tr (hb.alloc hb.size _) hb1 (by have := hb.size; simp; omega)⟩
    · have H1 : Hid (firstBadFrom chk 0 l = (0, 0)) := firstBadFrom_none chk l 0 fun i hi => by simpa using h0.out i hi (by omega)
      go_wp2
      go_ret2
      exact ⟨by rw [H1.out]; rfl, hb⟩
theorem beyond_c (a b limit : Int) (w : World) (h1 : -4611686018427387904 ≤ limit) (h2 : limit ≤ 4611686018427387904) :
    Calls Tryd.prog 66 #[.agg #[.int .i64 a, .int .i64 b], .int .i64 limit] w fun r w' => r = .returned (.bool (beyB (a, b) limit)) ∧ Below w.heap.size w w' := by
  have H : Hid (beyB (a, b) limit = (outB a (-limit) limit || outB b (-limit) limit)) := rfl
  generalize g1 : outB a (-limit) limit = b1 at H
  generalize g2 : outB b (-limit) limit = b2 at H
  cases b1 <;> cases b2 <;> (
    go_enter Tryd.func66, Tryd.ntmps66
    go_wp2_with (first | (go_at_call 41; refine (errorIf_c _ _ _).mono ?_; rintro e_ w_ ⟨rfl, rfl⟩) | (go_at_call 60; refine (outside_c _ _ _ _).mono ?_; rintro e_ w_ ⟨rfl, rfl⟩))
    go_ret
    exact ⟨by rw [H.out]; rfl, (Below.refl _ _).alloc (Nat.le_refl _) _⟩)

theorem checkFrame1_c (k re im limit : Int) (B : Nat) (w : World) (hc : w.cell? ⟨B, 1, none⟩ = some (.int .i64 limit)) (h1 : -4611686018427387904 ≤ limit) (h2 : limit ≤ 4611686018427387904) :
    Calls Tryd.prog 84 (#[.int .i64 k, .agg #[.int .i64 re, .int .i64 im]] ++ #[.pointer (some ⟨B, 0, none⟩)]) w fun r w' => r = .returned (.int .i64 (sampleE limit (re, im))) ∧ Below w.heap.size w w' := by
  rw [show (#[.int .i64 k, .agg #[.int .i64 re, .int .i64 im]] ++ #[.pointer (some ⟨B, 0, none⟩)] : Array Value) = #[.int .i64 k, .agg #[.int .i64 re, .int .i64 im], .pointer (some ⟨B, 0, none⟩)] from rfl]
  have hB : B < w.heap.size := World.block_lt_of_cell? _ _ hc
  go_enter Tryd.func84, Tryd.ntmps84
  go_wp2_with (first | (go_at_call 66; refine (beyond_c _ _ limit _ h1 h2).mono ?_; rintro e w1 ⟨rfl, hb1⟩) | (go_at_call 41; refine (errorIf_c _ _ _).mono ?_; rintro e_ w_ ⟨rfl, rfl⟩) | (go_at_call 60; refine (outside_c _ _ _ _).mono ?_; rintro e_ w_ ⟨rfl, rfl⟩))
  go_ret
  exact ⟨rfl, tr ((Below.refl _ _).alloc (Nat.le_refl _) _) hb1 (by simp)⟩

theorem checkFrame2_c (_gain _limit : Value) (k : Nat) (gap : Int) (A G : Option Addr) (n cA c : Nat) (gaps : List Int) (B : Nat) (w : World) (hc : w.cell? ⟨B, 2, none⟩ = some (.slice A n cA)) (hd : w.cell? ⟨B, 3, none⟩ = some (.slice G gaps.length c))
    (hr : Rd w G (ints gaps)) (hn : n ≤ 1000) (hk : k < gaps.length) (hg : gaps.length ≤ 1000) :
    Calls Tryd.prog 85 (#[.int .i64 k, .int .i64 gap] ++ #[.pointer (some ⟨B, 0, none⟩)]) w fun r w' => r = .returned (.int .i64 (gapE n gaps k gap)) ∧ Below w.heap.size w w' := by
  rw [show (#[.int .i64 k, .int .i64 gap] ++ #[.pointer (some ⟨B, 0, none⟩)] : Array Value) = #[.int .i64 k, .int .i64 gap, .pointer (some ⟨B, 0, none⟩)] from rfl]
  have hB : B < w.heap.size := World.block_lt_of_cell? _ _ hc
  have hl0 : 0 < gaps.length := by omega
  rcases Nat.eq_zero_or_pos k with rfl | hkp
  · have H : Hid (gapE n gaps 0 gap = firstE [errIf (outB gap 0 ((n : Int) - 1)) 6, errIf false 9]) := rfl
    go_enter Tryd.func85, Tryd.ntmps85
    go_wp2_with (first | (go_at_call 41; refine (errorIf_c _ _ _).mono ?_; rintro e_ w_ ⟨rfl, rfl⟩) | (go_at_call 60; refine (outside_c _ _ _ _).mono ?_; rintro e_ w_ ⟨rfl, rfl⟩) | (go_at_call 39; refine (firstError_2 _ _ _).mono ?_; rintro e_ w_ ⟨rfl, rfl⟩))
    go_ret
    exact ⟨by rw [H.out]; rfl, (Below.refl _ _).alloc (Nat.le_refl _) _⟩
  · obtain ⟨b, off, rfl, hblt, hc0⟩ := hr.int_at (k := k - 1) (by omega)
    have e1 : gaps.getD (k - 1) 0 = gaps[k - 1] := by simp [List.getD, show k - 1 < gaps.length from by omega]
    have H : Hid (gapE n gaps k gap = firstE [errIf (outB gap 0 ((n : Int) - 1)) 6, errIf (decide (gap ≤ gaps[k - 1])) 9]) := by
      show gapE n gaps k gap = _
      unfold gapE
      rw [e1]; simp [hkp]
    clear e1
    generalize gaps[k - 1] = prev at hc0 H
    go_enter Tryd.func85, Tryd.ntmps85
    go_wp2_with (first | (go_at_call 41; refine (errorIf_c _ _ _).mono ?_; rintro e_ w_ ⟨rfl, rfl⟩) | (go_at_call 60; refine (outside_c _ _ _ _).mono ?_; rintro e_ w_ ⟨rfl, rfl⟩) | (go_at_call 39; refine (firstError_2 _ _ _).mono ?_; rintro e_ w_ ⟨rfl, rfl⟩))
    go_ret
    exact ⟨by rw [H.out]; rfl, (Below.refl _ _).alloc (Nat.le_refl _) _⟩

section
variable {w wx w1 : World} {B n : Nat} {v0 v1 v2 v3 : Value}
theorem held4_bel (h : wx.cell? ⟨B, 0, none⟩ = some v0 ∧ wx.cell? ⟨B, 1, none⟩ = some v1 ∧ wx.cell? ⟨B, 2, none⟩ = some v2 ∧ wx.cell? ⟨B, 3, none⟩ = some v3 ∧ Below n w wx) (hb : Below wx.heap.size wx w1) (hB : n ≤ wx.heap.size) :
    w1.cell? ⟨B, 0, none⟩ = some v0 ∧ w1.cell? ⟨B, 1, none⟩ = some v1 ∧ w1.cell? ⟨B, 2, none⟩ = some v2 ∧ w1.cell? ⟨B, 3, none⟩ = some v3 ∧ Below n w w1 := by
  obtain ⟨h0, h1, h2, h3, h4⟩ := h
  have hlt : B < wx.heap.size := World.block_lt_of_cell? _ _ h0
  exact ⟨(hb.cell (p := ⟨B, 0, none⟩) hlt).trans h0, (hb.cell (p := ⟨B, 1, none⟩) hlt).trans h1, (hb.cell (p := ⟨B, 2, none⟩) hlt).trans h2, (hb.cell (p := ⟨B, 3, none⟩) hlt).trans h3, h4.trans (hb.mono hB)⟩
theorem held4_drew (h : wx.cell? ⟨B, 0, none⟩ = some v0 ∧ wx.cell? ⟨B, 1, none⟩ = some v1 ∧ wx.cell? ⟨B, 2, none⟩ = some v2 ∧ wx.cell? ⟨B, 3, none⟩ = some v3 ∧ Below n w wx) :
    wx.drew.cell? ⟨B, 0, none⟩ = some v0 ∧ wx.drew.cell? ⟨B, 1, none⟩ = some v1 ∧ wx.drew.cell? ⟨B, 2, none⟩ = some v2 ∧ wx.drew.cell? ⟨B, 3, none⟩ = some v3 ∧ Below n w wx.drew :=
  ⟨h.1, h.2.1, h.2.2.1, h.2.2.2.1, h.2.2.2.2.drew⟩
theorem held4_alloc (h : wx.cell? ⟨B, 0, none⟩ = some v0 ∧ wx.cell? ⟨B, 1, none⟩ = some v1 ∧ wx.cell? ⟨B, 2, none⟩ = some v2 ∧ wx.cell? ⟨B, 3, none⟩ = some v3 ∧ Below n w wx) (hB : n ≤ wx.heap.size) (o : Obj) :
    (wx.alloc o).cell? ⟨B, 0, none⟩ = some v0 ∧ (wx.alloc o).cell? ⟨B, 1, none⟩ = some v1 ∧ (wx.alloc o).cell? ⟨B, 2, none⟩ = some v2 ∧ (wx.alloc o).cell? ⟨B, 3, none⟩ = some v3 ∧ Below n w (wx.alloc o) :=
  held4_bel h ((Below.refl _ _).alloc (Nat.le_refl _) o) hB
theorem held4_new (w : World) (v0 v1 v2 v3 : Value) (t : TypeId) : (w.alloc (.cells #[v0, v1, v2, v3] t)).cell? ⟨w.heap.size, 0, none⟩ = some v0 ∧ (w.alloc (.cells #[v0, v1, v2, v3] t)).cell? ⟨w.heap.size, 1, none⟩ = some v1 ∧
    (w.alloc (.cells #[v0, v1, v2, v3] t)).cell? ⟨w.heap.size, 2, none⟩ = some v2 ∧ (w.alloc (.cells #[v0, v1, v2, v3] t)).cell? ⟨w.heap.size, 3, none⟩ = some v3 ∧ Below w.heap.size w (w.alloc (.cells #[v0, v1, v2, v3] t)) := by
  refine ⟨?_, ?_, ?_, ?_, (Below.refl _ _).alloc (Nat.le_refl _) _⟩ <;> (rw [cell_of_row _ _ _ _ _ (0, 0) (heap_alloc_new w _)]; rfl)
end

theorem checkFrame_c (gain limit : Int) (A G : Option Addr) (cA c : Nat) (samples : List (Int × Int)) (gaps : List Int) (w : World) (hs : Rd w A (gs samples)) (hr : Rd w G (ints gaps)) (hn : samples.length ≤ 1000) (hg : gaps.length ≤ 1000) :
    Calls Tryd.prog 65 #[.agg #[.int .i64 gain, .int .i64 limit, .slice A samples.length cA, .slice G gaps.length c]] w fun r w' =>
      r = .returned (.tuple #[.int .i64 (frameE gain limit samples gaps).1, .int .i64 (frameE gain limit samples gaps).2]) ∧ Below w.heap.size w w' := by
  have HS := hide (held4_new w (.int .i64 gain) (.int .i64 limit) (.slice A samples.length cA) (.slice G gaps.length c) 25)
  have hz0 : w.heap.size ≤ (w.alloc (.cells #[.int .i64 gain, .int .i64 limit, .slice A samples.length cA, .slice G gaps.length c] 25)).drew.heap.size := by simp
  go_enter Tryd.func65, Tryd.ntmps65
  go_wp2
  go_region_held3 (fun w' => w'.cell? ⟨w.heap.size, 0, none⟩ = some (.int .i64 gain) ∧ w'.cell? ⟨w.heap.size, 1, none⟩ = some (.int .i64 limit) ∧ w'.cell? ⟨w.heap.size, 2, none⟩ = some (.slice A samples.length cA) ∧ w'.cell? ⟨w.heap.size, 3, none⟩ = some (.slice G gaps.length c) ∧ Below w.heap.size w w')
    (first | exact held4_drew HS.out | exact held4_bel (held4_drew HS.out) hb1 hz0 | exact held4_alloc (held4_bel (held4_drew HS.out) hb1 hz0) (Nat.le_trans hz0 hb1.size) _)
    (first
      | (go_at_call 73; refine (lengthError_c _ _ _).mono ?_; rintro e w1 ⟨rfl, hb1⟩) | (go_at_call 41; refine (errorIf_c _ _ _).mono ?_; rintro e_ w_ ⟨rfl, rfl⟩) | (go_at_call 60; refine (outside_c _ _ _ _).mono ?_; rintro e_ w_ ⟨rfl, rfl⟩) | (go_at_call 39; refine (firstError_3 _ _ _ _).mono ?_; rintro e_ w_ ⟨rfl, rfl⟩))
  have hF := held4_alloc (held4_bel (held4_drew HS.out) hb1 hz0) (Nat.le_trans hz0 hb1.size) (.cells #[.int .i64 (errIf (outB gain (-8) 8) 2), .int .i64 (errIf (outB limit 1 2000000) 2), .int .i64 (lenE samples.length 64)] 28)
  generalize hW : w1.alloc (.cells #[.int .i64 (errIf (outB gain (-8) 8) 2), .int .i64 (errIf (outB limit 1 2000000) 2), .int .i64 (lenE samples.length 64)] 28) = W at hF ⊢
  rw [show firstE [errIf (outB gain (-8) 8) 2, errIf (outB limit 1 2000000) 2, lenE samples.length 64] = headE gain limit samples.length from rfl]
  obtain ⟨c0, c1, c2, c3, hbel⟩ := hF
  have hsz : w.heap.size < W.heap.size := World.block_lt_of_cell? _ _ c0
  clear hb1 HS hW
  by_cases h0 : headE gain limit samples.length = 0
  · have e1 : (headE gain limit samples.length != 0) = false := by simpa using h0
    obtain ⟨_, _, l1, l2, _, _⟩ := headE_zero h0
    have H0 := hide h0
    clear h0
    have HC1 := hide (firstBadG_c (fun _ g => sampleE limit g) 84 samples A cA #[.pointer (some ⟨w.heap.size, 0, none⟩)] W (hs.bel hbel) hn Tryd.call84
      (fun k h W' hb => checkFrame1_c k _ _ limit w.heap.size W' ((hb.cell (p := ⟨w.heap.size, 1, none⟩) hsz).trans c1) (by omega) (by omega)))
    by_cases h1 : (firstBadFrom (fun _ g => sampleE limit g) 0 samples).2 = 0
    · have H1 := hide h1
      have HR : Hid (frameE gain limit samples gaps = firstBadFrom (gapE samples.length gaps) 0 gaps) := by
        show frameE gain limit samples gaps = _
        unfold frameE
        rw [if_pos H0.out, if_pos h1]
      have e2 : ((firstBadFrom (fun _ g => sampleE limit g) 0 samples).2 != 0) = false := by simpa using h1
      clear h1
      generalize (firstBadFrom (fun _ g => sampleE limit g) 0 samples).1 = i1 at HC1
      generalize (firstBadFrom (fun _ g => sampleE limit g) 0 samples).2 = i2 at HC1 e2
      go_wp2_with (first
        | (go_at_call 79; refine HC1.out.mono ?_; rintro e w2 ⟨rfl, hb2⟩; have c2' := (hb2.cell (p := ⟨w.heap.size, 2, none⟩) hsz).trans c2; have c3' := (hb2.cell (p := ⟨w.heap.size, 3, none⟩) hsz).trans c3)
        | (go_at_call 67; refine (firstBadInt_c (gapE samples.length gaps) 85 gaps G c #[.pointer (some ⟨w.heap.size, 0, none⟩)] w2 ((hr.bel hbel).bel hb2) hg Tryd.call85 (fun k h W' hb => checkFrame2_c .nilFunc .nilFunc k _ A G samples.length cA c gaps w.heap.size W' ((hb.cell (p := ⟨w.heap.size, 2, none⟩) (Nat.lt_of_lt_of_le hsz hb2.size)).trans c2') ((hb.cell (p := ⟨w.heap.size, 3, none⟩) (Nat.lt_of_lt_of_le hsz hb2.size)).trans c3') (((hr.bel hbel).bel hb2).bel hb) hn h hg)).mono ?_; rintro e w3 ⟨rfl, hb3⟩))
      go_ret2
      exact ⟨by rw [HR.out]; rfl, tr (tr hbel hb2 (by omega)) hb3 (by have := hb2.size; omega)⟩
    · have HR : Hid (frameE gain limit samples gaps = firstBadFrom (fun _ g => sampleE limit g) 0 samples) := by
        show frameE gain limit samples gaps = _
        unfold frameE
        rw [if_pos H0.out, if_neg h1]
      have e2 : ((firstBadFrom (fun _ g => sampleE limit g) 0 samples).2 != 0) = true := by simpa using h1
      clear h1
      obtain ⟨fb, hfb⟩ : ∃ fb, firstBadFrom (fun _ g => sampleE limit g) 0 samples = fb := ⟨_, rfl⟩
      rw [hfb] at HC1 e2 HR
      clear hfb
      go_wp2_with (first
        | (go_at_call 79; refine HC1.out.mono ?_; rintro e w2 ⟨rfl, hb2⟩))
      go_ret2
      exact ⟨by rw [HR.out]; rfl, tr hbel hb2 (by omega)⟩
  · have HR : Hid (frameE gain limit samples gaps = (0, headE gain limit samples.length)) := by
      show frameE gain limit samples gaps = _
      unfold frameE
      rw [if_neg h0]
    have e1 : (headE gain limit samples.length != 0) = true := by simpa using h0
    clear h0
    go_wp2
    go_ret2
    exact ⟨by rw [HR.out]; rfl, hbel⟩
end Go.Proofs.YtnigmdkhecblnaaDoor

/- Contracts: frames that were checked. -/
namespace Go.Proofs.YtnigmdkhecblnaaDoor
open Go.RowKit
set_option maxRecDepth 100000

/-- The cells of bools. -/
def bls (l : List Bool) : List Value := l.map .bool
theorem Tryd.info4 : (Tryd.prog.info? 4).map (fun i => (i.zero, i.size, i.bytes)) = some (some (.bool false), 1, 1) := by kernel_rfl

/-- Which samples are usable. -/
def usableL (limit : Int) (samples : List (Int × Int)) (gaps : List Int) : List Bool := (List.range samples.length).map (usableB limit samples gaps)

section
variable {w wx w1 : World} {n : Nat} {p0 p1 p2 p3 : Addr} {v0 v1 v2 v3 : Value}
theorem hold4_bel (h : wx.cell? p0 = some v0 ∧ wx.cell? p1 = some v1 ∧ wx.cell? p2 = some v2 ∧ wx.cell? p3 = some v3 ∧ Below n w wx) (hb : Below wx.heap.size wx w1) (hB : n ≤ wx.heap.size) :
    w1.cell? p0 = some v0 ∧ w1.cell? p1 = some v1 ∧ w1.cell? p2 = some v2 ∧ w1.cell? p3 = some v3 ∧ Below n w w1 := by
  obtain ⟨h0, h1, h2, h3, h4⟩ := h
  exact ⟨(hb.cell (World.block_lt_of_cell? _ _ h0)).trans h0, (hb.cell (World.block_lt_of_cell? _ _ h1)).trans h1, (hb.cell (World.block_lt_of_cell? _ _ h2)).trans h2, (hb.cell (World.block_lt_of_cell? _ _ h3)).trans h3, h4.trans (hb.mono hB)⟩
theorem hold4_drew (h : wx.cell? p0 = some v0 ∧ wx.cell? p1 = some v1 ∧ wx.cell? p2 = some v2 ∧ wx.cell? p3 = some v3 ∧ Below n w wx) :
    wx.drew.cell? p0 = some v0 ∧ wx.drew.cell? p1 = some v1 ∧ wx.drew.cell? p2 = some v2 ∧ wx.drew.cell? p3 = some v3 ∧ Below n w wx.drew :=
  ⟨h.1, h.2.1, h.2.2.1, h.2.2.2.1, h.2.2.2.2.drew⟩
theorem hold4_set {q : Addr} {u : Value} (h : wx.cell? p0 = some v0 ∧ wx.cell? p1 = some v1 ∧ wx.cell? p2 = some v2 ∧ wx.cell? p3 = some v3 ∧ Below n w wx) (h0 : p0.block ≠ q.block) (h1 : p1.block ≠ q.block) (h2 : p2.block ≠ q.block) (h3 : p3.block ≠ q.block) (hq : n ≤ q.block) :
    (wx.setCell q u).cell? p0 = some v0 ∧ (wx.setCell q u).cell? p1 = some v1 ∧ (wx.setCell q u).cell? p2 = some v2 ∧ (wx.setCell q u).cell? p3 = some v3 ∧ Below n w (wx.setCell q u) :=
  ⟨(World.cell?_of_block (Below.heap_setCell wx q u _ h0)).trans h.1, (World.cell?_of_block (Below.heap_setCell wx q u _ h1)).trans h.2.1, (World.cell?_of_block (Below.heap_setCell wx q u _ h2)).trans h.2.2.1, (World.cell?_of_block (Below.heap_setCell wx q u _ h3)).trans h.2.2.2.1, h.2.2.2.2.setCell hq u⟩
end

theorem bls_length (l : List Bool) : (bls l).length = l.length := by simp [bls]
theorem bls_replicate (n : Nat) : bls (List.replicate n false) = List.replicate n (.bool false) := by simp [bls]
theorem bls_set (l : List Bool) (k : Nat) (b : Bool) : (bls l).set k (.bool b) = bls (l.set k b) := by simp [bls, List.map_set]
/-- The usable samples after the first k gaps. -/
def useK (limit : Int) (samples : List (Int × Int)) (gaps : List Int) (k : Nat) : List Bool := usableL limit samples (gaps.take k)
theorem useK_zero (limit : Int) (samples : List (Int × Int)) (gaps : List Int) : useK limit samples gaps 0 = (List.range samples.length).map fun i => !beyB (samples.getD i (0, 0)) (limit - 1) := by
  simp [useK, usableL, usableB]
theorem useK_all (limit : Int) (samples : List (Int × Int)) (gaps : List Int) : useK limit samples gaps gaps.length = usableL limit samples gaps := by
  simp [useK]
theorem useK_length (limit : Int) (samples : List (Int × Int)) (gaps : List Int) (k : Nat) : (useK limit samples gaps k).length = samples.length := by simp [useK, usableL]
theorem useK_set (limit : Int) (samples : List (Int × Int)) (gaps : List Int) (k : Nat) (hk : k < gaps.length) (g : Nat) (hg : gaps[k] = (g : Int)) :
    (useK limit samples gaps k).set g false = useK limit samples gaps (k + 1) := by
  unfold useK usableL
  refine List.ext_getElem (by simp) fun i h1 h2 => ?_
  have ht : gaps.take (k + 1) = gaps.take k ++ [(g : Int)] := by rw [List.take_succ_eq_append_getElem hk, hg]
  rw [List.getElem_set]
  by_cases hi : g = i
  · subst hi
    simp [usableB, ht]
  · have hi' : ¬ ((i : Int) = (g : Int)) := by omega
    simp [usableB, ht, hi, hi']

theorem checked_c (gain limit : Int) (A G : Option Addr) (cA c : Nat) (samples : List (Int × Int)) (gaps : List Int) (w : World) (hs : Rd w A (gs samples)) (hr : Rd w G (ints gaps)) (hn : samples.length ≤ 1000) (hg : gaps.length ≤ 1000) :
    Calls Tryd.prog 38 #[.agg #[.int .i64 gain, .int .i64 limit, .slice A samples.length cA, .slice G gaps.length c]] w fun r w' =>
      (((frameE gain limit samples gaps).2 ≠ 0 ∧ r = .returned (.tuple #[.agg #[.int .i64 0, .int .i64 0, .slice none 0 0, .slice none 0 0, .slice none 0 0], .int .i64 (frameE gain limit samples gaps).2])) ∨
        ((frameE gain limit samples gaps).2 = 0 ∧ ∃ U cU, r = .returned (.tuple #[.agg #[.int .i64 gain, .int .i64 limit, .slice A samples.length cA, .slice G gaps.length c, .slice U samples.length cU], .int .i64 0]) ∧ RdT w' 4 U (bls (usableL limit samples gaps)))) ∧ Below w.heap.size w w' := by
  obtain ⟨i0, hi, iz0, iz1, iz2⟩ := info_parts Tryd.info4
  go_enter Tryd.func38, Tryd.ntmps38
  go_wp2_with fail
  obtain ⟨W0, hW0⟩ : ∃ W0, (w.alloc (.cells #[.int .i64 gain, .int .i64 limit, .slice A samples.length cA, .slice G gaps.length c] 25)).alloc (.cells #[.int .i64 0, .int .i64 0, .slice none 0 0, .slice none 0 0, .slice none 0 0] 81) = W0 := ⟨_, rfl⟩
  have hsz0 : W0.heap.size = w.heap.size + 2 := by rw [← hW0]; simp
  have hb0 : Below w.heap.size w W0 := by rw [← hW0]; exact ((Below.refl _ _).alloc (Nat.le_refl _) _).alloc (by simp) _
  have hB0 : Blk W0 w.heap.size 25 [.int .i64 gain, .int .i64 limit, .slice A samples.length cA, .slice G gaps.length c] := by rw [← hW0]; exact (Blk.new w _ [_, _, _, _]).bel ((Below.refl _ _).alloc (Nat.le_refl _) _)
  have hB1 : Blk W0 (w.heap.size + 1) 81 [.int .i64 0, .int .i64 0, .slice none 0 0, .slice none 0 0, .slice none 0 0] := by
    rw [← hW0]
    have := Blk.new (w.alloc (.cells #[.int .i64 gain, .int .i64 limit, .slice A samples.length cA, .slice G gaps.length c] 25)) 81 [.int .i64 0, .int .i64 0, .slice none 0 0, .slice none 0 0, .slice none 0 0]
    simpa using this
  rw [hW0]
  clear hW0
  refine (checkFrame_c gain limit A G cA c samples gaps W0 (hs.bel hb0) (hr.bel hb0) hn hg).mono ?_
  rintro e w1 ⟨rfl, hb1⟩
  have hB01 := hB0.bel hb1
  have hB11 := hB1.bel hb1
  have hsz1 : w.heap.size + 2 ≤ w1.heap.size := by have := hb1.size; omega
  have c0 := hB01.cell 0
  have c1 := hB01.cell 1
  have c2 := hB01.cell 2
  have c3 := hB01.cell 3
  simp only [List.getElem?_cons_zero, List.getElem?_cons_succ] at c0 c1 c2 c3
  have d0 := hB11.cell 0
  have d1 := hB11.cell 1
  have d2 := hB11.cell 2
  have d3 := hB11.cell 3
  have d4 := hB11.cell 4
  simp only [List.getElem?_cons_zero, List.getElem?_cons_succ] at d0 d1 d2 d3 d4
  have k0 := hB11.frozen 0
  have k1 := hB11.frozen 1
  have k2 := hB11.frozen 2
  have k3 := hB11.frozen 3
  have k4 := hB11.frozen 4
  by_cases he : (frameE gain limit samples gaps).2 = 0
  · have e1 : ((frameE gain limit samples gaps).2 != 0) = false := by simpa using he
    have HE := hide he
    clear he
    have hmk : ∀ W, (Instr.makeSlice 79 (.int .i64 (samples.length : Int)) (.int .i64 (samples.length : Int))).run Tryd.prog W = .ok (.slice (some ⟨W.heap.size, 0, none⟩) samples.length samples.length) (W.alloc (.cells (List.replicate samples.length (Value.bool false)).toArray 4)) := fun W => by
      have h1 := run_make_rowN (P := Tryd.prog) 79 4 i0 _ Tryd.underlying79 hi iz0 .i64 .i64 samples.length samples.length (Nat.le_refl _) (by rw [iz2]; omega) (by omega) W
      have h2 := madeCells_one (.bool false) rfl samples.length
      rw [iz1] at h1
      rw [h1]
      congr 3
      rw [← h2]
    go_wp2
    have hlt1 : w.heap.size < w1.heap.size := by omega
    have eA : Array.replicate samples.length (Value.bool false) = (bls (List.replicate samples.length false)).toArray := by simp [bls]
    go_upto_region 4 with (fail)
    go_cut [6] from 20 to 25 (fun v6 wx => ∃ p q : Nat, v6 = .pointer (some ⟨p, 0, none⟩) ∧ p ≠ q ∧ w1.heap.size ≤ p ∧ w1.heap.size ≤ q ∧ Below w1.heap.size w1 wx ∧
      Blk wx p 81 [.int .i64 gain, .int .i64 limit, .slice A samples.length cA, .slice G gaps.length c, .slice (some ⟨q, 0, none⟩) samples.length samples.length] ∧ Blk wx q 4 (bls (List.replicate samples.length false)))
    case first =>
      go_region_held3 (fun w' => w'.cell? ⟨w.heap.size, 0, none⟩ = some (.int .i64 gain) ∧ w'.cell? ⟨w.heap.size, 1, none⟩ = some (.int .i64 limit) ∧ w'.cell? ⟨w.heap.size, 2, none⟩ = some (.slice A samples.length cA) ∧ w'.cell? ⟨w.heap.size, 3, none⟩ = some (.slice G gaps.length c)) (go_keep) (fail)
      · go_wp2_with fail
        go_meet
        refine ⟨w1.heap.size + 1, w1.heap.size, rfl, by omega, by omega, Nat.le_refl _, (((Below.refl _ w1).alloc (Nat.le_refl _) _).alloc (by simp) _).drew, ?_, ?_⟩
        · have := Blk.new (w1.alloc (.cells (bls (List.replicate samples.length false)).toArray 4)) 81 [.int .i64 gain, .int .i64 limit, .slice A samples.length cA, .slice G gaps.length c, .slice (some ⟨w1.heap.size, 0, none⟩) samples.length samples.length]
          exact Blk.drewN (by simpa using this) 1
        · exact (Blk.new w1 4 (bls (List.replicate samples.length false))).bel (((Below.refl _ _).alloc (Nat.le_refl _) _).drew)
      · go_wp2_with fail
        go_meet
        refine ⟨w1.heap.size, w1.heap.size + 1, rfl, by omega, Nat.le_refl _, by omega, (((Below.refl _ w1).alloc (Nat.le_refl _) _).alloc (by simp) _).drew, ?_, ?_⟩
        · exact (Blk.new w1 81 [.int .i64 gain, .int .i64 limit, .slice A samples.length cA, .slice G gaps.length c, .slice (some ⟨w1.heap.size + 1, 0, none⟩) samples.length samples.length]).bel (((Below.refl _ _).alloc (Nat.le_refl _) _).drew)
        · have := Blk.new (w1.alloc (.cells #[.int .i64 gain, .int .i64 limit, .slice A samples.length cA, .slice G gaps.length c, .slice (some ⟨w1.heap.size + 1, 0, none⟩) samples.length samples.length] 81)) 4 (bls (List.replicate samples.length false))
          exact Blk.drewN (by simpa using this) 1
    case rest =>
      clear hmk c0 c1 c2 c3 d0 d1 d2 d3 d4
      obtain ⟨p, q, rfl, hpq, hp, hq, hbx, hP, hQ⟩ := hcut
      have hbel0 : Below w.heap.size w w1 := tr hb0 hb1 (by omega)
      obtain ⟨hh, hsamp, hgap⟩ := frameE_zero HE.out
      obtain ⟨_, _, l1, l2, n1, n2⟩ := headE_zero hh
      have hbel : Below w.heap.size w wc := tr (tr hb0 hb1 (by omega)) (hbx.mono (Nat.le_refl _)) (by omega)
      have HG := hide hgap
      have HSM := hide hsamp
      clear hh hsamp hgap
      have q0 := hP.cell 0
      have q1 := hP.cell 1
      have q2 := hP.cell 2
      have q3 := hP.cell 3
      have q4 := hP.cell 4
      simp only [List.getElem?_cons_zero, List.getElem?_cons_succ] at q0 q1 q2 q3 q4
      go_wp2_with fail
      go_loopw [30] (fun i wr => ∃ k : Nat, k ≤ samples.length ∧ i = .int .i64 k ∧ Below w1.heap.size w1 wr ∧
        Blk wr p 81 [.int .i64 gain, .int .i64 limit, .slice A samples.length cA, .slice G gaps.length c, .slice (some ⟨q, 0, none⟩) samples.length samples.length] ∧
        Blk wr q 4 (bls ((List.range k).map (fun i => !beyB (samples.getD i (0, 0)) (limit - 1)) ++ List.replicate (samples.length - k) false))) (fun i _ => samples.length - (intOf i).toNat)
      case atStart => exact ⟨0, Nat.zero_le _, rfl, hbx, hP, by simpa using hQ⟩
      case round =>
        obtain ⟨k, hk, rfl, hbr, hPr, hQr⟩ := hrel
        by_cases hlt : k < samples.length
        · obtain ⟨bA, offA, rfl, hbA, z1, z2⟩ := ((hs.bel hbel0).bel hbr).g_at hlt
          have f0 := hPr.cell 0
          have f1 := hPr.cell 1
          have f4 := hPr.cell 4
          simp only [List.getElem?_cons_zero, List.getElem?_cons_succ] at f0 f1 f4
          have hgd : samples.getD k (0, 0) = samples[k] := by simp [List.getD, hlt]
          generalize samples[k] = smp at hgd z1 z2
          obtain ⟨sa, sb⟩ := smp
          dsimp only at z1 z2
          have HST : Hid (((List.range k).map (fun i => !beyB (samples.getD i (0, 0)) (limit - 1)) ++ List.replicate (samples.length - k) false).set k (!beyB (sa, sb) (limit - 1)) =
              (List.range (k + 1)).map (fun i => !beyB (samples.getD i (0, 0)) (limit - 1)) ++ List.replicate (samples.length - (k + 1)) false) := by
            have := set_next (fun i => !beyB (samples.getD i (0, 0)) (limit - 1)) false _ _ hlt
            rw [hgd] at this
            exact this
          clear hgd
          obtain ⟨L, hL⟩ : ∃ L, (List.range k).map (fun i => !beyB (samples.getD i (0, 0)) (limit - 1)) ++ List.replicate (samples.length - k) false = L := ⟨_, rfl⟩
          have hLn : L.length = samples.length := by rw [← hL]; simp; omega
          rw [hL] at hQr HST
          clear hL
          go_upto_region 8 with fail
          generalize hW : wr.alloc (.cells #[.int .i64 sa, .int .i64 sb] 47) = W
          have hTW : Blk W wr.heap.size 47 [.int .i64 sa, .int .i64 sb] := by
            rw [← hW]; exact Blk.new wr 47 [.int .i64 sa, .int .i64 sb]
          have hBW : Below wr.heap.size wr W := by
            rw [← hW]; exact (Below.refl _ _).alloc (Nat.le_refl _) _
          have hPW := hPr.bel hBW
          have hQW : Hid (Blk W.drew q 4 (bls L)) := hQr.bel hBW.drew
          have hwr : w1.heap.size ≤ wr.heap.size := hbr.size
          have hplt := hPr.lt
          have hqlt := hQr.lt
          have HS : Hid (W.cell? ⟨p, 1, none⟩ = some (.int .i64 limit) ∧ W.cell? ⟨p, 4, none⟩ = some (.slice (some ⟨q, 0, none⟩) samples.length samples.length) ∧ W.cell? ⟨wr.heap.size, 0, none⟩ = some (.int .i64 sa) ∧ W.cell? ⟨wr.heap.size, 1, none⟩ = some (.int .i64 sb) ∧ Below w1.heap.size w1 W) :=
            ⟨hPW.cell 1, hPW.cell 4, hTW.cell 0, hTW.cell 1, tr hbr hBW hwr⟩
          have hz0 : w1.heap.size ≤ W.drew.heap.size := by have := hBW.size; simp; omega
          have hPH := hide hPW
          have nq1 : (⟨p, 1, none⟩ : Addr).block ≠ (⟨q, 0 + k, none⟩ : Addr).block := hpq
          have nq2 : (⟨p, 4, none⟩ : Addr).block ≠ (⟨q, 0 + k, none⟩ : Addr).block := hpq
          have nq3 : (⟨wr.heap.size, 0, none⟩ : Addr).block ≠ (⟨q, 0 + k, none⟩ : Addr).block := by show wr.heap.size ≠ q; omega
          have nq4 : (⟨wr.heap.size, 1, none⟩ : Addr).block ≠ (⟨q, 0 + k, none⟩ : Addr).block := by show wr.heap.size ≠ q; omega
          clear hW hTW hPW f0 f1 f4 z1 z2
          obtain ⟨zv, hzv⟩ : ∃ zv, (bls L)[k]? = some zv := ⟨_, List.getElem?_eq_getElem (by rw [bls_length, hLn]; exact hlt)⟩
          have hwl : IntKind.i64.wrap (limit - 1) = limit - 1 := by simp (disch := omega) only [IntWalk.i64_in]
          have ix0 : (0 : Int) ≤ (k : Int) := by omega
          have ix1 : (k : Int) < (samples.length : Int) := by omega
          go_region_held3 (fun w' => w'.cell? ⟨p, 1, none⟩ = some (.int .i64 limit) ∧ w'.cell? ⟨p, 4, none⟩ = some (.slice (some ⟨q, 0, none⟩) samples.length samples.length) ∧ w'.cell? ⟨wr.heap.size, 0, none⟩ = some (.int .i64 sa) ∧ w'.cell? ⟨wr.heap.size, 1, none⟩ = some (.int .i64 sb) ∧ Below w1.heap.size w1 w')
            (first | with_reducible exact hold4_drew HS.out | with_reducible exact hold4_bel (hold4_drew HS.out) hb3 hz0 | with_reducible exact hold4_set (hold4_bel (hold4_drew HS.out) hb3 hz0) nq1 nq2 nq3 nq4 hq)
            (first | (go_at_call 66; have hcall := beyond_c sa sb (limit - 1) W.drew (by omega) (by omega); refine hcall.mono ?_; rintro e w3 ⟨rfl, hb3⟩; have hq3 := hQW.out.bel hb3; have zf3 := hq3.frozen k; have zc3 := (hq3.cell k).trans hzv))
          have hP3 : Blk w3 p 81 _ := Blk.bel (w := W.drew) hPH.out hb3
          have hB3 : Below w1.heap.size w1 w3 := tr (b := W.drew) (HS.out.2.2.2.2).drew hb3 hz0
          go_wp2_with fail
          go_roundw
          case rel =>
            refine ⟨k + 1, by omega, by go_num, hB3.setCell hq _, hP3.far hpq _, ?_⟩
            have := hq3.set_ k (.bool (!beyB (sa, sb) (limit - 1)))
            rw [bls_set, HST.out] at this
            exact this
          case measure => simp [intOf]; omega
        · obtain rfl : k = samples.length := by omega
          have e3 : (List.range samples.length).map (fun i => !beyB (samples.getD i (0, 0)) (limit - 1)) ++ List.replicate (samples.length - samples.length) false = useK limit samples gaps 0 := by rw [useK_zero]; simp
          rw [e3] at hQr
          have r3 := hPr.cell 3
          simp only [List.getElem?_cons_zero, List.getElem?_cons_succ] at r3
          go_wp2
          go_loopw [51] (fun i wx => ∃ k : Nat, k ≤ gaps.length ∧ i = .int .i64 k ∧ Below w1.heap.size w1 wx ∧
            Blk wx p 81 [.int .i64 gain, .int .i64 limit, .slice A samples.length cA, .slice G gaps.length c, .slice (some ⟨q, 0, none⟩) samples.length samples.length] ∧
            Blk wx q 4 (bls (useK limit samples gaps k))) (fun i _ => gaps.length - (intOf i).toNat)
          case atStart => exact ⟨0, Nat.zero_le _, rfl, hbr, hPr, hQr⟩
          case round =>
            clear hbr hPr hQr e3
            obtain ⟨k, hk, rfl, hbr, hPr, hQr⟩ := hrel
            by_cases hlt : k < gaps.length
            · have f4 := hPr.cell 4
              simp only [List.getElem?_cons_zero, List.getElem?_cons_succ] at f4
              obtain ⟨bG, offG, rfl, hbG, z1⟩ := ((hr.bel hbel0).bel hbr).int_at hlt
              have hgk := HG.out _ (List.getElem_mem hlt)
              obtain ⟨gk, hgk'⟩ : ∃ gk : Nat, gaps[k] = (gk : Int) := ⟨gaps[k].toNat, by omega⟩
              have hset := hide (hQr.set_ gk (.bool false))
              rw [hgk'] at z1 hgk
              have hgk2 : gk < samples.length := by omega
              have zc := hQr.cell gk
              have zf := hQr.frozen gk
              rw [List.getElem?_eq_getElem (by rw [bls_length, useK_length]; exact hgk2)] at zc
              go_wp2_with fail
              go_roundw
              case rel =>
                refine ⟨k + 1, by omega, by go_num, hbr.setCell hq _, hPr.far hpq _, ?_⟩
                have := hset.out
                rw [bls_set, useK_set limit samples gaps k hlt gk hgk'] at this
                exact this
              case measure => simp [intOf]; omega
            · obtain rfl : k = gaps.length := by omega
              rw [useK_all] at hQr
              have f0 := hPr.cell 0
              have f1 := hPr.cell 1
              have f2 := hPr.cell 2
              have f3 := hPr.cell 3
              have f4 := hPr.cell 4
              simp only [List.getElem?_cons_zero, List.getElem?_cons_succ] at f0 f1 f2 f3 f4
              have hDr : Blk wr (w.heap.size + 1) 81 _ := hB11.below hbr (by omega)
              have d0 := hDr.cell 0
              have d1 := hDr.cell 1
              have d2 := hDr.cell 2
              have d3 := hDr.cell 3
              have d4 := hDr.cell 4
              simp only [List.getElem?_cons_zero, List.getElem?_cons_succ] at d0 d1 d2 d3 d4
              have k0 := hDr.frozen 0
              have k1 := hDr.frozen 1
              have k2 := hDr.frozen 2
              have k3 := hDr.frozen 3
              have k4 := hDr.frozen 4
              go_wp2_with fail
              try simp only [Exit.inBlock, Exit.then]
              obtain ⟨WE, hWE⟩ : ∃ WE, ((((wr.setCell ⟨w.heap.size + 1, 0, none⟩ (.int .i64 gain)).setCell ⟨w.heap.size + 1, 1, none⟩ (.int .i64 limit)).setCell ⟨w.heap.size + 1, 2, none⟩ (.slice A samples.length cA)).setCell ⟨w.heap.size + 1, 3, none⟩ (.slice G gaps.length c)).setCell ⟨w.heap.size + 1, 4, none⟩ (.slice (some ⟨q, 0, none⟩) samples.length samples.length) = WE := ⟨_, rfl⟩
              rw [hWE]
              have hE : Blk WE (w.heap.size + 1) 81 [.int .i64 gain, .int .i64 limit, .slice A samples.length cA, .slice G gaps.length c, .slice (some ⟨q, 0, none⟩) samples.length samples.length] := by
                rw [← hWE]; exact ((((hDr.set_ 0 _).set_ 1 _).set_ 2 _).set_ 3 _).set_ 4 _
              have hqD : ∀ i, q ≠ (⟨w.heap.size + 1, i, none⟩ : Addr).block := fun i => by show q ≠ w.heap.size + 1; omega
              have hQE : Blk WE q 4 (bls (usableL limit samples gaps)) := by
                rw [← hWE]; exact ((((hQr.far (hqD 0) _).far (hqD 1) _).far (hqD 2) _).far (hqD 3) _).far (hqD 4) _
              have hBE : Below w.heap.size w WE := by
                have hX : Below w.heap.size w wr := tr hbel0 hbr (by omega)
                rw [← hWE]
                exact ((((hX.setCell (by simp) _).setCell (by simp) _).setCell (by simp) _).setCell (by simp) _).setCell (by simp) _
              have g0 := hE.cell 0
              have g1 := hE.cell 1
              have g2 := hE.cell 2
              have g3 := hE.cell 3
              have g4 := hE.cell 4
              simp only [List.getElem?_cons_zero, List.getElem?_cons_succ] at g0 g1 g2 g3 g4
              clear hWE
              refine bodyPost_ret (by simp [results, Tryd.results38, go_sem, g0, g1, g2, g3, g4]; try rfl) rfl ?_
              exact ⟨.inr ⟨HE.out, _, _, rfl, hQE.rdT (List.prefix_refl _)⟩, hBE⟩
  · have e1 : ((frameE gain limit samples gaps).2 != 0) = true := by simpa using he
    have HE := hide he
    clear he
    go_wp2
    try simp only [Exit.inBlock, Exit.then]
    refine bodyPost_ret (by simp [results, Tryd.results38, go_sem, d0, d1, d2, d3, d4]; try rfl) rfl ?_
    refine ⟨.inl ⟨HE.out, rfl⟩, ?_⟩
    have hX : Below w.heap.size w w1 := tr hb0 hb1 (by omega)
    exact ((((hX.setCell (by simp) _).setCell (by simp) _).setCell (by simp) _).setCell (by simp) _).setCell (by simp) _
end Go.Proofs.YtnigmdkhecblnaaDoor

/- What a region's S keeps: n cells and a Below, behind a call that lays new blocks, a draw, a new block. Plain lemmas; no condition. (Made by tools/hold.py.) -/
namespace Go.Proofs.YtnigmdkhecblnaaDoor
open Go.RowKit
section
variable {w wx w1 : World} {n : Nat} {p0 p1 p2 p3 p4 p5 p6 p7 p8 : Addr} {v0 v1 v2 v3 v4 v5 v6 v7 v8 : Value}
theorem hd1_bel (h : wx.cell? p0 = some v0 ∧ Below n w wx) (hb : Below wx.heap.size wx w1) (hB : n ≤ wx.heap.size) : w1.cell? p0 = some v0 ∧ Below n w w1 := by
  obtain ⟨h0, hX⟩ := h
  exact ⟨(hb.cell (World.block_lt_of_cell? _ _ h0)).trans h0, hX.trans (hb.mono hB)⟩
theorem hd1_drew (h : wx.cell? p0 = some v0 ∧ Below n w wx) : wx.drew.cell? p0 = some v0 ∧ Below n w wx.drew := by
  obtain ⟨h0, hX⟩ := h
  exact ⟨h0, hX.drew⟩
theorem hd1_set {q : Addr} {u : Value} (h : wx.cell? p0 = some v0 ∧ Below n w wx) (n0 : p0.block ≠ q.block) (hq : n ≤ q.block) : (wx.setCell q u).cell? p0 = some v0 ∧ Below n w (wx.setCell q u) := by
  obtain ⟨h0, hX⟩ := h
  exact ⟨(World.cell?_of_block (Below.heap_setCell wx q u _ n0)).trans h0, hX.setCell hq u⟩
theorem hd1_alloc (h : wx.cell? p0 = some v0 ∧ Below n w wx) (hB : n ≤ wx.heap.size) (o : Obj) : (wx.alloc o).cell? p0 = some v0 ∧ Below n w (wx.alloc o) := hd1_bel h ((Below.refl _ _).alloc (Nat.le_refl _) o) hB
theorem hd2_bel (h : wx.cell? p0 = some v0 ∧ wx.cell? p1 = some v1 ∧ Below n w wx) (hb : Below wx.heap.size wx w1) (hB : n ≤ wx.heap.size) : w1.cell? p0 = some v0 ∧ w1.cell? p1 = some v1 ∧ Below n w w1 := by
  obtain ⟨h0, h1, hX⟩ := h
  exact ⟨(hb.cell (World.block_lt_of_cell? _ _ h0)).trans h0, (hb.cell (World.block_lt_of_cell? _ _ h1)).trans h1, hX.trans (hb.mono hB)⟩
theorem hd2_drew (h : wx.cell? p0 = some v0 ∧ wx.cell? p1 = some v1 ∧ Below n w wx) : wx.drew.cell? p0 = some v0 ∧ wx.drew.cell? p1 = some v1 ∧ Below n w wx.drew := by
  obtain ⟨h0, h1, hX⟩ := h
  exact ⟨h0, h1, hX.drew⟩
theorem hd2_set {q : Addr} {u : Value} (h : wx.cell? p0 = some v0 ∧ wx.cell? p1 = some v1 ∧ Below n w wx) (n0 : p0.block ≠ q.block) (n1 : p1.block ≠ q.block) (hq : n ≤ q.block) : (wx.setCell q u).cell? p0 = some v0 ∧ (wx.setCell q u).cell? p1 = some v1 ∧ Below n w (wx.setCell q u) := by
  obtain ⟨h0, h1, hX⟩ := h
  exact ⟨(World.cell?_of_block (Below.heap_setCell wx q u _ n0)).trans h0, (World.cell?_of_block (Below.heap_setCell wx q u _ n1)).trans h1, hX.setCell hq u⟩
theorem hd2_alloc (h : wx.cell? p0 = some v0 ∧ wx.cell? p1 = some v1 ∧ Below n w wx) (hB : n ≤ wx.heap.size) (o : Obj) : (wx.alloc o).cell? p0 = some v0 ∧ (wx.alloc o).cell? p1 = some v1 ∧ Below n w (wx.alloc o) := hd2_bel h ((Below.refl _ _).alloc (Nat.le_refl _) o) hB
theorem hd3_bel (h : wx.cell? p0 = some v0 ∧ wx.cell? p1 = some v1 ∧ wx.cell? p2 = some v2 ∧ Below n w wx) (hb : Below wx.heap.size wx w1) (hB : n ≤ wx.heap.size) : w1.cell? p0 = some v0 ∧ w1.cell? p1 = some v1 ∧ w1.cell? p2 = some v2 ∧ Below n w w1 := by
  obtain ⟨h0, h1, h2, hX⟩ := h
  exact ⟨(hb.cell (World.block_lt_of_cell? _ _ h0)).trans h0, (hb.cell (World.block_lt_of_cell? _ _ h1)).trans h1, (hb.cell (World.block_lt_of_cell? _ _ h2)).trans h2, hX.trans (hb.mono hB)⟩
theorem hd3_drew (h : wx.cell? p0 = some v0 ∧ wx.cell? p1 = some v1 ∧ wx.cell? p2 = some v2 ∧ Below n w wx) : wx.drew.cell? p0 = some v0 ∧ wx.drew.cell? p1 = some v1 ∧ wx.drew.cell? p2 = some v2 ∧ Below n w wx.drew := by
  obtain ⟨h0, h1, h2, hX⟩ := h
  exact ⟨h0, h1, h2, hX.drew⟩
theorem hd3_set {q : Addr} {u : Value} (h : wx.cell? p0 = some v0 ∧ wx.cell? p1 = some v1 ∧ wx.cell? p2 = some v2 ∧ Below n w wx) (n0 : p0.block ≠ q.block) (n1 : p1.block ≠ q.block) (n2 : p2.block ≠ q.block) (hq : n ≤ q.block) : (wx.setCell q u).cell? p0 = some v0 ∧ (wx.setCell q u).cell? p1 = some v1 ∧ (wx.setCell q u).cell? p2 = some v2 ∧ Below n w (wx.setCell q u) := by
  obtain ⟨h0, h1, h2, hX⟩ := h
  exact ⟨(World.cell?_of_block (Below.heap_setCell wx q u _ n0)).trans h0, (World.cell?_of_block (Below.heap_setCell wx q u _ n1)).trans h1, (World.cell?_of_block (Below.heap_setCell wx q u _ n2)).trans h2, hX.setCell hq u⟩
theorem hd3_alloc (h : wx.cell? p0 = some v0 ∧ wx.cell? p1 = some v1 ∧ wx.cell? p2 = some v2 ∧ Below n w wx) (hB : n ≤ wx.heap.size) (o : Obj) : (wx.alloc o).cell? p0 = some v0 ∧ (wx.alloc o).cell? p1 = some v1 ∧ (wx.alloc o).cell? p2 = some v2 ∧ Below n w (wx.alloc o) := hd3_bel h ((Below.refl _ _).alloc (Nat.le_refl _) o) hB
theorem hd4_bel (h : wx.cell? p0 = some v0 ∧ wx.cell? p1 = some v1 ∧ wx.cell? p2 = some v2 ∧ wx.cell? p3 = some v3 ∧ Below n w wx) (hb : Below wx.heap.size wx w1) (hB : n ≤ wx.heap.size) : w1.cell? p0 = some v0 ∧ w1.cell? p1 = some v1 ∧ w1.cell? p2 = some v2 ∧ w1.cell? p3 = some v3 ∧ Below n w w1 := by
  obtain ⟨h0, h1, h2, h3, hX⟩ := h
  exact ⟨(hb.cell (World.block_lt_of_cell? _ _ h0)).trans h0, (hb.cell (World.block_lt_of_cell? _ _ h1)).trans h1, (hb.cell (World.block_lt_of_cell? _ _ h2)).trans h2, (hb.cell (World.block_lt_of_cell? _ _ h3)).trans h3, hX.trans (hb.mono hB)⟩
theorem hd4_drew (h : wx.cell? p0 = some v0 ∧ wx.cell? p1 = some v1 ∧ wx.cell? p2 = some v2 ∧ wx.cell? p3 = some v3 ∧ Below n w wx) : wx.drew.cell? p0 = some v0 ∧ wx.drew.cell? p1 = some v1 ∧ wx.drew.cell? p2 = some v2 ∧ wx.drew.cell? p3 = some v3 ∧ Below n w wx.drew := by
  obtain ⟨h0, h1, h2, h3, hX⟩ := h
  exact ⟨h0, h1, h2, h3, hX.drew⟩
theorem hd4_set {q : Addr} {u : Value} (h : wx.cell? p0 = some v0 ∧ wx.cell? p1 = some v1 ∧ wx.cell? p2 = some v2 ∧ wx.cell? p3 = some v3 ∧ Below n w wx) (n0 : p0.block ≠ q.block) (n1 : p1.block ≠ q.block) (n2 : p2.block ≠ q.block) (n3 : p3.block ≠ q.block) (hq : n ≤ q.block) : (wx.setCell q u).cell? p0 = some v0 ∧ (wx.setCell q u).cell? p1 = some v1 ∧ (wx.setCell q u).cell? p2 = some v2 ∧ (wx.setCell q u).cell? p3 = some v3 ∧ Below n w (wx.setCell q u) := by
  obtain ⟨h0, h1, h2, h3, hX⟩ := h
  exact ⟨(World.cell?_of_block (Below.heap_setCell wx q u _ n0)).trans h0, (World.cell?_of_block (Below.heap_setCell wx q u _ n1)).trans h1, (World.cell?_of_block (Below.heap_setCell wx q u _ n2)).trans h2, (World.cell?_of_block (Below.heap_setCell wx q u _ n3)).trans h3, hX.setCell hq u⟩
theorem hd4_alloc (h : wx.cell? p0 = some v0 ∧ wx.cell? p1 = some v1 ∧ wx.cell? p2 = some v2 ∧ wx.cell? p3 = some v3 ∧ Below n w wx) (hB : n ≤ wx.heap.size) (o : Obj) : (wx.alloc o).cell? p0 = some v0 ∧ (wx.alloc o).cell? p1 = some v1 ∧ (wx.alloc o).cell? p2 = some v2 ∧ (wx.alloc o).cell? p3 = some v3 ∧ Below n w (wx.alloc o) := hd4_bel h ((Below.refl _ _).alloc (Nat.le_refl _) o) hB
theorem hd5_bel (h : wx.cell? p0 = some v0 ∧ wx.cell? p1 = some v1 ∧ wx.cell? p2 = some v2 ∧ wx.cell? p3 = some v3 ∧ wx.cell? p4 = some v4 ∧ Below n w wx) (hb : Below wx.heap.size wx w1) (hB : n ≤ wx.heap.size) : w1.cell? p0 = some v0 ∧ w1.cell? p1 = some v1 ∧ w1.cell? p2 = some v2 ∧ w1.cell? p3 = some v3 ∧ w1.cell? p4 = some v4 ∧ Below n w w1 := by
  obtain ⟨h0, h1, h2, h3, h4, hX⟩ := h
  exact ⟨(hb.cell (World.block_lt_of_cell? _ _ h0)).trans h0, (hb.cell (World.block_lt_of_cell? _ _ h1)).trans h1, (hb.cell (World.block_lt_of_cell? _ _ h2)).trans h2, (hb.cell (World.block_lt_of_cell? _ _ h3)).trans h3, (hb.cell (World.block_lt_of_cell? _ _ h4)).trans h4, hX.trans (hb.mono hB)⟩
theorem hd5_drew (h : wx.cell? p0 = some v0 ∧ wx.cell? p1 = some v1 ∧ wx.cell? p2 = some v2 ∧ wx.cell? p3 = some v3 ∧ wx.cell? p4 = some v4 ∧ Below n w wx) : wx.drew.cell? p0 = some v0 ∧ wx.drew.cell? p1 = some v1 ∧ wx.drew.cell? p2 = some v2 ∧ wx.drew.cell? p3 = some v3 ∧ wx.drew.cell? p4 = some v4 ∧ Below n w wx.drew := by
  obtain ⟨h0, h1, h2, h3, h4, hX⟩ := h
  exact ⟨h0, h1, h2, h3, h4, hX.drew⟩
theorem hd5_set {q : Addr} {u : Value} (h : wx.cell? p0 = some v0 ∧ wx.cell? p1 = some v1 ∧ wx.cell? p2 = some v2 ∧ wx.cell? p3 = some v3 ∧ wx.cell? p4 = some v4 ∧ Below n w wx) (n0 : p0.block ≠ q.block) (n1 : p1.block ≠ q.block) (n2 : p2.block ≠ q.block) (n3 : p3.block ≠ q.block) (n4 : p4.block ≠ q.block) (hq : n ≤ q.block) : (wx.setCell q u).cell? p0 = some v0 ∧ (wx.setCell q u).cell? p1 = some v1 ∧ (wx.setCell q u).cell? p2 = some v2 ∧ (wx.setCell q u).cell? p3 = some v3 ∧ (wx.setCell q u).cell? p4 = some v4 ∧ Below n w (wx.setCell q u) := by
  obtain ⟨h0, h1, h2, h3, h4, hX⟩ := h
  exact ⟨(World.cell?_of_block (Below.heap_setCell wx q u _ n0)).trans h0, (World.cell?_of_block (Below.heap_setCell wx q u _ n1)).trans h1, (World.cell?_of_block (Below.heap_setCell wx q u _ n2)).trans h2, (World.cell?_of_block (Below.heap_setCell wx q u _ n3)).trans h3, (World.cell?_of_block (Below.heap_setCell wx q u _ n4)).trans h4, hX.setCell hq u⟩
theorem hd5_alloc (h : wx.cell? p0 = some v0 ∧ wx.cell? p1 = some v1 ∧ wx.cell? p2 = some v2 ∧ wx.cell? p3 = some v3 ∧ wx.cell? p4 = some v4 ∧ Below n w wx) (hB : n ≤ wx.heap.size) (o : Obj) : (wx.alloc o).cell? p0 = some v0 ∧ (wx.alloc o).cell? p1 = some v1 ∧ (wx.alloc o).cell? p2 = some v2 ∧ (wx.alloc o).cell? p3 = some v3 ∧ (wx.alloc o).cell? p4 = some v4 ∧ Below n w (wx.alloc o) := hd5_bel h ((Below.refl _ _).alloc (Nat.le_refl _) o) hB
theorem hd6_bel (h : wx.cell? p0 = some v0 ∧ wx.cell? p1 = some v1 ∧ wx.cell? p2 = some v2 ∧ wx.cell? p3 = some v3 ∧ wx.cell? p4 = some v4 ∧ wx.cell? p5 = some v5 ∧ Below n w wx) (hb : Below wx.heap.size wx w1) (hB : n ≤ wx.heap.size) : w1.cell? p0 = some v0 ∧ w1.cell? p1 = some v1 ∧ w1.cell? p2 = some v2 ∧ w1.cell? p3 = some v3 ∧ w1.cell? p4 = some v4 ∧ w1.cell? p5 = some v5 ∧ Below n w w1 := by
  obtain ⟨h0, h1, h2, h3, h4, h5, hX⟩ := h
  exact ⟨(hb.cell (World.block_lt_of_cell? _ _ h0)).trans h0, (hb.cell (World.block_lt_of_cell? _ _ h1)).trans h1, (hb.cell (World.block_lt_of_cell? _ _ h2)).trans h2, (hb.cell (World.block_lt_of_cell? _ _ h3)).trans h3, (hb.cell (World.block_lt_of_cell? _ _ h4)).trans h4, (hb.cell (World.block_lt_of_cell? _ _ h5)).trans h5, hX.trans (hb.mono hB)⟩
theorem hd6_drew (h : wx.cell? p0 = some v0 ∧ wx.cell? p1 = some v1 ∧ wx.cell? p2 = some v2 ∧ wx.cell? p3 = some v3 ∧ wx.cell? p4 = some v4 ∧ wx.cell? p5 = some v5 ∧ Below n w wx) : wx.drew.cell? p0 = some v0 ∧ wx.drew.cell? p1 = some v1 ∧ wx.drew.cell? p2 = some v2 ∧ wx.drew.cell? p3 = some v3 ∧ wx.drew.cell? p4 = some v4 ∧ wx.drew.cell? p5 = some v5 ∧ Below n w wx.drew := by
  obtain ⟨h0, h1, h2, h3, h4, h5, hX⟩ := h
  exact ⟨h0, h1, h2, h3, h4, h5, hX.drew⟩
theorem hd6_set {q : Addr} {u : Value} (h : wx.cell? p0 = some v0 ∧ wx.cell? p1 = some v1 ∧ wx.cell? p2 = some v2 ∧ wx.cell? p3 = some v3 ∧ wx.cell? p4 = some v4 ∧ wx.cell? p5 = some v5 ∧ Below n w wx) (n0 : p0.block ≠ q.block) (n1 : p1.block ≠ q.block) (n2 : p2.block ≠ q.block) (n3 : p3.block ≠ q.block) (n4 : p4.block ≠ q.block) (n5 : p5.block ≠ q.block) (hq : n ≤ q.block) : (wx.setCell q u).cell? p0 = some v0 ∧ (wx.setCell q u).cell? p1 = some v1 ∧ (wx.setCell q u).cell? p2 = some v2 ∧ (wx.setCell q u).cell? p3 = some v3 ∧ (wx.setCell q u).cell? p4 = some v4 ∧ (wx.setCell q u).cell? p5 = some v5 ∧ Below n w (wx.setCell q u) := by
  obtain ⟨h0, h1, h2, h3, h4, h5, hX⟩ := h
  exact ⟨(World.cell?_of_block (Below.heap_setCell wx q u _ n0)).trans h0, (World.cell?_of_block (Below.heap_setCell wx q u _ n1)).trans h1, (World.cell?_of_block (Below.heap_setCell wx q u _ n2)).trans h2, (World.cell?_of_block (Below.heap_setCell wx q u _ n3)).trans h3, (World.cell?_of_block (Below.heap_setCell wx q u _ n4)).trans h4, (World.cell?_of_block (Below.heap_setCell wx q u _ n5)).trans h5, hX.setCell hq u⟩
theorem hd6_alloc (h : wx.cell? p0 = some v0 ∧ wx.cell? p1 = some v1 ∧ wx.cell? p2 = some v2 ∧ wx.cell? p3 = some v3 ∧ wx.cell? p4 = some v4 ∧ wx.cell? p5 = some v5 ∧ Below n w wx) (hB : n ≤ wx.heap.size) (o : Obj) : (wx.alloc o).cell? p0 = some v0 ∧ (wx.alloc o).cell? p1 = some v1 ∧ (wx.alloc o).cell? p2 = some v2 ∧ (wx.alloc o).cell? p3 = some v3 ∧ (wx.alloc o).cell? p4 = some v4 ∧ (wx.alloc o).cell? p5 = some v5 ∧ Below n w (wx.alloc o) := hd6_bel h ((Below.refl _ _).alloc (Nat.le_refl _) o) hB
theorem hd7_bel (h : wx.cell? p0 = some v0 ∧ wx.cell? p1 = some v1 ∧ wx.cell? p2 = some v2 ∧ wx.cell? p3 = some v3 ∧ wx.cell? p4 = some v4 ∧ wx.cell? p5 = some v5 ∧ wx.cell? p6 = some v6 ∧ Below n w wx) (hb : Below wx.heap.size wx w1) (hB : n ≤ wx.heap.size) : w1.cell? p0 = some v0 ∧ w1.cell? p1 = some v1 ∧ w1.cell? p2 = some v2 ∧ w1.cell? p3 = some v3 ∧ w1.cell? p4 = some v4 ∧ w1.cell? p5 = some v5 ∧ w1.cell? p6 = some v6 ∧ Below n w w1 := by
  obtain ⟨h0, h1, h2, h3, h4, h5, h6, hX⟩ := h
  exact ⟨(hb.cell (World.block_lt_of_cell? _ _ h0)).trans h0, (hb.cell (World.block_lt_of_cell? _ _ h1)).trans h1, (hb.cell (World.block_lt_of_cell? _ _ h2)).trans h2, (hb.cell (World.block_lt_of_cell? _ _ h3)).trans h3, (hb.cell (World.block_lt_of_cell? _ _ h4)).trans h4, (hb.cell (World.block_lt_of_cell? _ _ h5)).trans h5, (hb.cell (World.block_lt_of_cell? _ _ h6)).trans h6, hX.trans (hb.mono hB)⟩
theorem hd7_drew (h : wx.cell? p0 = some v0 ∧ wx.cell? p1 = some v1 ∧ wx.cell? p2 = some v2 ∧ wx.cell? p3 = some v3 ∧ wx.cell? p4 = some v4 ∧ wx.cell? p5 = some v5 ∧ wx.cell? p6 = some v6 ∧ Below n w wx) : wx.drew.cell? p0 = some v0 ∧ wx.drew.cell? p1 = some v1 ∧ wx.drew.cell? p2 = some v2 ∧ wx.drew.cell? p3 = some v3 ∧ wx.drew.cell? p4 = some v4 ∧ wx.drew.cell? p5 = some v5 ∧ wx.drew.cell? p6 = some v6 ∧ Below n w wx.drew := by
  obtain ⟨h0, h1, h2, h3, h4, h5, h6, hX⟩ := h
  exact ⟨h0, h1, h2, h3, h4, h5, h6, hX.drew⟩
theorem hd7_set {q : Addr} {u : Value} (h : wx.cell? p0 = some v0 ∧ wx.cell? p1 = some v1 ∧ wx.cell? p2 = some v2 ∧ wx.cell? p3 = some v3 ∧ wx.cell? p4 = some v4 ∧ wx.cell? p5 = some v5 ∧ wx.cell? p6 = some v6 ∧ Below n w wx) (n0 : p0.block ≠ q.block) (n1 : p1.block ≠ q.block) (n2 : p2.block ≠ q.block) (n3 : p3.block ≠ q.block) (n4 : p4.block ≠ q.block) (n5 : p5.block ≠ q.block) (n6 : p6.block ≠ q.block) (hq : n ≤ q.block) : (wx.setCell q u).cell? p0 = some v0 ∧ (wx.setCell q u).cell? p1 = some v1 ∧ (wx.setCell q u).cell? p2 = some v2 ∧ (wx.setCell q u).cell? p3 = some v3 ∧ (wx.setCell q u).cell? p4 = some v4 ∧ (wx.setCell q u).cell? p5 = some v5 ∧ (wx.setCell q u).cell? p6 = some v6 ∧ Below n w (wx.setCell q u) := by
  obtain ⟨h0, h1, h2, h3, h4, h5, h6, hX⟩ := h
  exact ⟨(World.cell?_of_block (Below.heap_setCell wx q u _ n0)).trans h0, (World.cell?_of_block (Below.heap_setCell wx q u _ n1)).trans h1, (World.cell?_of_block (Below.heap_setCell wx q u _ n2)).trans h2, (World.cell?_of_block (Below.heap_setCell wx q u _ n3)).trans h3, (World.cell?_of_block (Below.heap_setCell wx q u _ n4)).trans h4, (World.cell?_of_block (Below.heap_setCell wx q u _ n5)).trans h5, (World.cell?_of_block (Below.heap_setCell wx q u _ n6)).trans h6, hX.setCell hq u⟩
theorem hd7_alloc (h : wx.cell? p0 = some v0 ∧ wx.cell? p1 = some v1 ∧ wx.cell? p2 = some v2 ∧ wx.cell? p3 = some v3 ∧ wx.cell? p4 = some v4 ∧ wx.cell? p5 = some v5 ∧ wx.cell? p6 = some v6 ∧ Below n w wx) (hB : n ≤ wx.heap.size) (o : Obj) : (wx.alloc o).cell? p0 = some v0 ∧ (wx.alloc o).cell? p1 = some v1 ∧ (wx.alloc o).cell? p2 = some v2 ∧ (wx.alloc o).cell? p3 = some v3 ∧ (wx.alloc o).cell? p4 = some v4 ∧ (wx.alloc o).cell? p5 = some v5 ∧ (wx.alloc o).cell? p6 = some v6 ∧ Below n w (wx.alloc o) := hd7_bel h ((Below.refl _ _).alloc (Nat.le_refl _) o) hB
theorem hd8_bel (h : wx.cell? p0 = some v0 ∧ wx.cell? p1 = some v1 ∧ wx.cell? p2 = some v2 ∧ wx.cell? p3 = some v3 ∧ wx.cell? p4 = some v4 ∧ wx.cell? p5 = some v5 ∧ wx.cell? p6 = some v6 ∧ wx.cell? p7 = some v7 ∧ Below n w wx) (hb : Below wx.heap.size wx w1) (hB : n ≤ wx.heap.size) : w1.cell? p0 = some v0 ∧ w1.cell? p1 = some v1 ∧ w1.cell? p2 = some v2 ∧ w1.cell? p3 = some v3 ∧ w1.cell? p4 = some v4 ∧ w1.cell? p5 = some v5 ∧ w1.cell? p6 = some v6 ∧ w1.cell? p7 = some v7 ∧ Below n w w1 := by
  obtain ⟨h0, h1, h2, h3, h4, h5, h6, h7, hX⟩ := h
  exact ⟨(hb.cell (World.block_lt_of_cell? _ _ h0)).trans h0, (hb.cell (World.block_lt_of_cell? _ _ h1)).trans h1, (hb.cell (World.block_lt_of_cell? _ _ h2)).trans h2, (hb.cell (World.block_lt_of_cell? _ _ h3)).trans h3, (hb.cell (World.block_lt_of_cell? _ _ h4)).trans h4, (hb.cell (World.block_lt_of_cell? _ _ h5)).trans h5, (hb.cell (World.block_lt_of_cell? _ _ h6)).trans h6, (hb.cell (World.block_lt_of_cell? _ _ h7)).trans h7, hX.trans (hb.mono hB)⟩
theorem hd8_drew (h : wx.cell? p0 = some v0 ∧ wx.cell? p1 = some v1 ∧ wx.cell? p2 = some v2 ∧ wx.cell? p3 = some v3 ∧ wx.cell? p4 = some v4 ∧ wx.cell? p5 = some v5 ∧ wx.cell? p6 = some v6 ∧ wx.cell? p7 = some v7 ∧ Below n w wx) : wx.drew.cell? p0 = some v0 ∧ wx.drew.cell? p1 = some v1 ∧ wx.drew.cell? p2 = some v2 ∧ wx.drew.cell? p3 = some v3 ∧ wx.drew.cell? p4 = some v4 ∧ wx.drew.cell? p5 = some v5 ∧ wx.drew.cell? p6 = some v6 ∧ wx.drew.cell? p7 = some v7 ∧ Below n w wx.drew := by
  obtain ⟨h0, h1, h2, h3, h4, h5, h6, h7, hX⟩ := h
  exact ⟨h0, h1, h2, h3, h4, h5, h6, h7, hX.drew⟩
theorem hd8_set {q : Addr} {u : Value} (h : wx.cell? p0 = some v0 ∧ wx.cell? p1 = some v1 ∧ wx.cell? p2 = some v2 ∧ wx.cell? p3 = some v3 ∧ wx.cell? p4 = some v4 ∧ wx.cell? p5 = some v5 ∧ wx.cell? p6 = some v6 ∧ wx.cell? p7 = some v7 ∧ Below n w wx) (n0 : p0.block ≠ q.block) (n1 : p1.block ≠ q.block) (n2 : p2.block ≠ q.block) (n3 : p3.block ≠ q.block) (n4 : p4.block ≠ q.block) (n5 : p5.block ≠ q.block) (n6 : p6.block ≠ q.block) (n7 : p7.block ≠ q.block) (hq : n ≤ q.block) : (wx.setCell q u).cell? p0 = some v0 ∧ (wx.setCell q u).cell? p1 = some v1 ∧ (wx.setCell q u).cell? p2 = some v2 ∧ (wx.setCell q u).cell? p3 = some v3 ∧ (wx.setCell q u).cell? p4 = some v4 ∧ (wx.setCell q u).cell? p5 = some v5 ∧ (wx.setCell q u).cell? p6 = some v6 ∧ (wx.setCell q u).cell? p7 = some v7 ∧ Below n w (wx.setCell q u) := by
  obtain ⟨h0, h1, h2, h3, h4, h5, h6, h7, hX⟩ := h
  exact ⟨(World.cell?_of_block (Below.heap_setCell wx q u _ n0)).trans h0, (World.cell?_of_block (Below.heap_setCell wx q u _ n1)).trans h1, (World.cell?_of_block (Below.heap_setCell wx q u _ n2)).trans h2, (World.cell?_of_block (Below.heap_setCell wx q u _ n3)).trans h3, (World.cell?_of_block (Below.heap_setCell wx q u _ n4)).trans h4, (World.cell?_of_block (Below.heap_setCell wx q u _ n5)).trans h5, (World.cell?_of_block (Below.heap_setCell wx q u _ n6)).trans h6, (World.cell?_of_block (Below.heap_setCell wx q u _ n7)).trans h7, hX.setCell hq u⟩
theorem hd8_alloc (h : wx.cell? p0 = some v0 ∧ wx.cell? p1 = some v1 ∧ wx.cell? p2 = some v2 ∧ wx.cell? p3 = some v3 ∧ wx.cell? p4 = some v4 ∧ wx.cell? p5 = some v5 ∧ wx.cell? p6 = some v6 ∧ wx.cell? p7 = some v7 ∧ Below n w wx) (hB : n ≤ wx.heap.size) (o : Obj) : (wx.alloc o).cell? p0 = some v0 ∧ (wx.alloc o).cell? p1 = some v1 ∧ (wx.alloc o).cell? p2 = some v2 ∧ (wx.alloc o).cell? p3 = some v3 ∧ (wx.alloc o).cell? p4 = some v4 ∧ (wx.alloc o).cell? p5 = some v5 ∧ (wx.alloc o).cell? p6 = some v6 ∧ (wx.alloc o).cell? p7 = some v7 ∧ Below n w (wx.alloc o) := hd8_bel h ((Below.refl _ _).alloc (Nat.le_refl _) o) hB
theorem hd9_bel (h : wx.cell? p0 = some v0 ∧ wx.cell? p1 = some v1 ∧ wx.cell? p2 = some v2 ∧ wx.cell? p3 = some v3 ∧ wx.cell? p4 = some v4 ∧ wx.cell? p5 = some v5 ∧ wx.cell? p6 = some v6 ∧ wx.cell? p7 = some v7 ∧ wx.cell? p8 = some v8 ∧ Below n w wx) (hb : Below wx.heap.size wx w1) (hB : n ≤ wx.heap.size) : w1.cell? p0 = some v0 ∧ w1.cell? p1 = some v1 ∧ w1.cell? p2 = some v2 ∧ w1.cell? p3 = some v3 ∧ w1.cell? p4 = some v4 ∧ w1.cell? p5 = some v5 ∧ w1.cell? p6 = some v6 ∧ w1.cell? p7 = some v7 ∧ w1.cell? p8 = some v8 ∧ Below n w w1 := by
  obtain ⟨h0, h1, h2, h3, h4, h5, h6, h7, h8, hX⟩ := h
  exact ⟨(hb.cell (World.block_lt_of_cell? _ _ h0)).trans h0, (hb.cell (World.block_lt_of_cell? _ _ h1)).trans h1, (hb.cell (World.block_lt_of_cell? _ _ h2)).trans h2, (hb.cell (World.block_lt_of_cell? _ _ h3)).trans h3, (hb.cell (World.block_lt_of_cell? _ _ h4)).trans h4, (hb.cell (World.block_lt_of_cell? _ _ h5)).trans h5, (hb.cell (World.block_lt_of_cell? _ _ h6)).trans h6, (hb.cell (World.block_lt_of_cell? _ _ h7)).trans h7, (hb.cell (World.block_lt_of_cell? _ _ h8)).trans h8, hX.trans (hb.mono hB)⟩
theorem hd9_drew (h : wx.cell? p0 = some v0 ∧ wx.cell? p1 = some v1 ∧ wx.cell? p2 = some v2 ∧ wx.cell? p3 = some v3 ∧ wx.cell? p4 = some v4 ∧ wx.cell? p5 = some v5 ∧ wx.cell? p6 = some v6 ∧ wx.cell? p7 = some v7 ∧ wx.cell? p8 = some v8 ∧ Below n w wx) : wx.drew.cell? p0 = some v0 ∧ wx.drew.cell? p1 = some v1 ∧ wx.drew.cell? p2 = some v2 ∧ wx.drew.cell? p3 = some v3 ∧ wx.drew.cell? p4 = some v4 ∧ wx.drew.cell? p5 = some v5 ∧ wx.drew.cell? p6 = some v6 ∧ wx.drew.cell? p7 = some v7 ∧ wx.drew.cell? p8 = some v8 ∧ Below n w wx.drew := by
  obtain ⟨h0, h1, h2, h3, h4, h5, h6, h7, h8, hX⟩ := h
  exact ⟨h0, h1, h2, h3, h4, h5, h6, h7, h8, hX.drew⟩
theorem hd9_set {q : Addr} {u : Value} (h : wx.cell? p0 = some v0 ∧ wx.cell? p1 = some v1 ∧ wx.cell? p2 = some v2 ∧ wx.cell? p3 = some v3 ∧ wx.cell? p4 = some v4 ∧ wx.cell? p5 = some v5 ∧ wx.cell? p6 = some v6 ∧ wx.cell? p7 = some v7 ∧ wx.cell? p8 = some v8 ∧ Below n w wx) (n0 : p0.block ≠ q.block) (n1 : p1.block ≠ q.block) (n2 : p2.block ≠ q.block) (n3 : p3.block ≠ q.block) (n4 : p4.block ≠ q.block) (n5 : p5.block ≠ q.block) (n6 : p6.block ≠ q.block) (n7 : p7.block ≠ q.block) (n8 : p8.block ≠ q.block) (hq : n ≤ q.block) : (wx.setCell q u).cell? p0 = some v0 ∧ (wx.setCell q u).cell? p1 = some v1 ∧ (wx.setCell q u).cell? p2 = some v2 ∧ (wx.setCell q u).cell? p3 = some v3 ∧ (wx.setCell q u).cell? p4 = some v4 ∧ (wx.setCell q u).cell? p5 = some v5 ∧ (wx.setCell q u).cell? p6 = some v6 ∧ (wx.setCell q u).cell? p7 = some v7 ∧ (wx.setCell q u).cell? p8 = some v8 ∧ Below n w (wx.setCell q u) := by
  obtain ⟨h0, h1, h2, h3, h4, h5, h6, h7, h8, hX⟩ := h
  exact ⟨(World.cell?_of_block (Below.heap_setCell wx q u _ n0)).trans h0, (World.cell?_of_block (Below.heap_setCell wx q u _ n1)).trans h1, (World.cell?_of_block (Below.heap_setCell wx q u _ n2)).trans h2, (World.cell?_of_block (Below.heap_setCell wx q u _ n3)).trans h3, (World.cell?_of_block (Below.heap_setCell wx q u _ n4)).trans h4, (World.cell?_of_block (Below.heap_setCell wx q u _ n5)).trans h5, (World.cell?_of_block (Below.heap_setCell wx q u _ n6)).trans h6, (World.cell?_of_block (Below.heap_setCell wx q u _ n7)).trans h7, (World.cell?_of_block (Below.heap_setCell wx q u _ n8)).trans h8, hX.setCell hq u⟩
theorem hd9_alloc (h : wx.cell? p0 = some v0 ∧ wx.cell? p1 = some v1 ∧ wx.cell? p2 = some v2 ∧ wx.cell? p3 = some v3 ∧ wx.cell? p4 = some v4 ∧ wx.cell? p5 = some v5 ∧ wx.cell? p6 = some v6 ∧ wx.cell? p7 = some v7 ∧ wx.cell? p8 = some v8 ∧ Below n w wx) (hB : n ≤ wx.heap.size) (o : Obj) : (wx.alloc o).cell? p0 = some v0 ∧ (wx.alloc o).cell? p1 = some v1 ∧ (wx.alloc o).cell? p2 = some v2 ∧ (wx.alloc o).cell? p3 = some v3 ∧ (wx.alloc o).cell? p4 = some v4 ∧ (wx.alloc o).cell? p5 = some v5 ∧ (wx.alloc o).cell? p6 = some v6 ∧ (wx.alloc o).cell? p7 = some v7 ∧ (wx.alloc o).cell? p8 = some v8 ∧ Below n w (wx.alloc o) := hd9_bel h ((Below.refl _ _).alloc (Nat.le_refl _) o) hB
end
theorem alloc_bel (w : World) (o : Obj) : Below w.heap.size w (w.alloc o) := (Below.refl _ _).alloc (Nat.le_refl _) o
end Go.Proofs.YtnigmdkhecblnaaDoor

/- Appending what a slice reads as; a slice that the call owns, as one that reads. Plain laws; no condition. -/
namespace Go.Proofs.YtnigmdkhecblnaaDoor
open Go.RowKit

theorem RdT.of_own {w : World} {base : Nat} {e : TypeId} {size n c : Nat} {A : Option Addr} {xs : List Value} (h : w.ownsRow base e size (.slice A n c) n xs) : RdT w e A xs := by
  refine ⟨Rd.of_own h, ?_⟩
  rintro b off rfl
  rcases h.2 with ⟨hv, _⟩ | ⟨g, cap, cur, hv, _, hh, _⟩
  · cases hv
  · injection hv with e1
    injection e1 with e1
    injection e1 with e1
    subst e1
    exact ⟨_, _, hh⟩

/-- 'append(s, x...)', s the call's own, x a slice that reads as these cells (nil, too). -/
theorem wpList_append_rd {P : Program} (w : World) {ops : Array Oper} {rest : List Oper} {o : Oper} {a : Act} {Q : Exit → Act → World → Prop} (hgd : o.guard = none) (s x : Operand) (t : TypeId)
    (ho : o.op = .call { callee := .builtin .append, args := #[s, x], argTypes := #[t, t] })
    (base : Nat) (e : TypeId) (i : TypeInfo) (z : Value) (size bytes : Nat) (ht : P.underlying t = some (.slice e)) (hi : P.info? e = some i) (hz : i.zero = some z)
    (hsize : i.size = size) (hby : i.bytes = bytes) (hzs : z.cells.size = size) (hsz : 0 < size)
    (v : Value) (n : Nat) (xs : List Value) (hs : a.eval s = v) (hown : w.ownsRow base e size v n xs)
    (A : Option Addr) (m c : Nat) (news : List Value) (hx : a.eval x = .slice A m c) (hl : news.length = m * size) (hr : Rd w A news) (h1 : ∀ u ∈ news, u.oneCell' = true)
    (h63 : n + m ≤ maxLen) (hbytes : (n + m) * bytes ≤ 140737488355328) (hbase : base ≤ w.heap.size)
    (h : ∀ v' w', w'.ownsRow base e size v' (n + m) (xs ++ news) → w.grownBy w' v.ownBlock → wpList P ops Q rest (a.put o.dst v') w') :
    wpList P ops Q (o :: rest) a w := by
  rcases A with _ | ad
  · have hn : news = [] := by
      by_cases hn : news = []
      · exact hn
      · obtain ⟨_, _, hA, _⟩ := hr hn
        cases hA
    subst hn
    have hm : m = 0 := by
      rcases Nat.eq_zero_or_pos m with h0 | h0
      · exact h0
      · have := Nat.mul_pos h0 hsz
        simp at hl
        omega
    subst hm
    have hrun : (Builtin.append_ #[t, t] o.type #[v, .slice none 0 c]).run P w = .ok v w := by
      rcases hown.2 with ⟨rfl, rfl⟩ | ⟨g, cap, cur, rfl, _, _, hnc, _⟩
      · simp [Builtin.append_, run_underlying ht, sizeOf, typeInfo, hi, Builtin.lenOf, Builtin.firstCells]
      · simp [Builtin.append_, run_underlying ht, sizeOf, typeInfo, hi, Builtin.lenOf, Builtin.firstCells, hnc, storeCells]
    refine wpList_plain hgd fun K hK => ?_
    unfold Oper.wp
    simp [execOp, ho, resolve, invoke, builtin, hs, hx, hrun, Result.andThen]
    exact hK _ _ (h v w (by simpa using hown) ⟨rfl, rfl, rfl, Nat.le_refl _, fun _ _ _ => rfl⟩)
  · have hnews : ∀ j u, news[j]? = some u → w.cell? (ad.add j) = some u := by
      intro j u hu
      obtain ⟨b, off, hA, _, hc⟩ := hr (by rintro rfl; simp at hu)
      cases hA
      have hadd : (⟨b, off, none⟩ : Addr).add j = ⟨b, off + j, none⟩ := by unfold Addr.add; split <;> simp_all
      rw [hadd]
      exact hc j u hu
    exact wpList_append_own_at w hgd s x t ho base e i z size bytes ht hi hz hsize hby hzs hsz v n xs hs hown ad m c news hx hl hnews h1 h63 hbytes hbase fun v' w' h2 h3 _ _ => h v' w' h2 h3

/-- A new block of one value, read as what is appended. -/
theorem rd_new (w : World) (t : TypeId) (cs : List Value) : Rd (w.alloc (.cells cs.toArray t)) (some ⟨w.heap.size, 0, none⟩) cs := (Blk.new w t cs).rd (List.prefix_refl _)
end Go.Proofs.YtnigmdkhecblnaaDoor

