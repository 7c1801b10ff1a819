/- What harmonics become when some are removed, and what the energy is. Plain lemmas; no condition. -/
import Derived.Test.YtnigmdkhecblnaaDoorQ8
set_option linter.unusedSimpArgs false
set_option linter.unusedVariables false
namespace Go.Proofs.YtnigmdkhecblnaaDoor
open Go.RowKit
set_option maxRecDepth 100000

theorem turn0 : turnG 0 = (1, 0) := rfl
theorem turn1 : turnG 1 = (0, 1) := rfl
theorem turn2 : turnG 2 = (-1, 0) := rfl
theorem turn3 : turnG 3 = (0, -1) := rfl

/-- The four harmonics, written out. -/
theorem harm_four (r0 r1 r2 r3 : Int × Int) (n : Nat) (hn : n < 4) : harmN [r0, r1, r2, r3] (n : Int) 4 =
    if n = 0 then (r0.1 + r1.1 + r2.1 + r3.1, r0.2 + r1.2 + r2.2 + r3.2) else if n = 1 then (r0.1 + r1.2 - r2.1 - r3.2, r0.2 - r1.1 - r2.2 + r3.1)
    else if n = 2 then (r0.1 - r1.1 + r2.1 - r3.1, r0.2 - r1.2 + r2.2 - r3.2) else (r0.1 - r1.2 - r2.1 + r3.2, r0.2 + r1.1 - r2.2 - r3.1) := by
  have e : n = 0 ∨ n = 1 ∨ n = 2 ∨ n = 3 := by omega
  rcases e with rfl | rfl | rfl | rfl
  · have t : ∀ q : Nat, (-((0 : Nat) : Int) * (q : Int) % 4).toNat = 0 := fun q => by omega
    simp only [harmN, t, turn0, gadd, gmul]
    simp
  · have t0 : (-((1 : Nat) : Int) * ((0 : Nat) : Int) % 4).toNat = 0 := by decide
    have t1 : (-((1 : Nat) : Int) * ((1 : Nat) : Int) % 4).toNat = 3 := by decide
    have t2 : (-((1 : Nat) : Int) * ((2 : Nat) : Int) % 4).toNat = 2 := by decide
    have t3 : (-((1 : Nat) : Int) * ((3 : Nat) : Int) % 4).toNat = 1 := by decide
    simp only [harmN, t0, t1, t2, t3, turn0, turn1, turn2, turn3, gadd, gmul]
    simp
    omega
  · have t0 : (-((2 : Nat) : Int) * ((0 : Nat) : Int) % 4).toNat = 0 := by decide
    have t1 : (-((2 : Nat) : Int) * ((1 : Nat) : Int) % 4).toNat = 2 := by decide
    have t2 : (-((2 : Nat) : Int) * ((2 : Nat) : Int) % 4).toNat = 0 := by decide
    have t3 : (-((2 : Nat) : Int) * ((3 : Nat) : Int) % 4).toNat = 2 := by decide
    simp only [harmN, t0, t1, t2, t3, turn0, turn1, turn2, turn3, gadd, gmul]
    simp
    omega
  · have t0 : (-((3 : Nat) : Int) * ((0 : Nat) : Int) % 4).toNat = 0 := by decide
    have t1 : (-((3 : Nat) : Int) * ((1 : Nat) : Int) % 4).toNat = 1 := by decide
    have t2 : (-((3 : Nat) : Int) * ((2 : Nat) : Int) % 4).toNat = 2 := by decide
    have t3 : (-((3 : Nat) : Int) * ((3 : Nat) : Int) % 4).toNat = 3 := by decide
    simp only [harmN, t0, t1, t2, t3, turn0, turn1, turn2, turn3, gadd, gmul]
    simp
    omega

/-- A turn that goes on evenly has one harmonic. -/
theorem harm_less (r0 r1 r2 r3 h : Int × Int) (m n : Nat) (hm : m < 4) (hn : n < 4) :
    harmN [gsubI r0 (gmul h (turnG ((m : Int) * ((0 : Nat) : Int) % 4).toNat)), gsubI r1 (gmul h (turnG ((m : Int) * ((1 : Nat) : Int) % 4).toNat)), gsubI r2 (gmul h (turnG ((m : Int) * ((2 : Nat) : Int) % 4).toNat)), gsubI r3 (gmul h (turnG ((m : Int) * ((3 : Nat) : Int) % 4).toNat))] (n : Int) 4 =
      if m = n then gsubI (harmN [r0, r1, r2, r3] (n : Int) 4) (4 * h.1, 4 * h.2) else harmN [r0, r1, r2, r3] (n : Int) 4 := by
  rw [harm_four _ _ _ _ n hn, harm_four _ _ _ _ n hn]
  obtain ⟨a0, b0⟩ := r0
  obtain ⟨a1, b1⟩ := r1
  obtain ⟨a2, b2⟩ := r2
  obtain ⟨a3, b3⟩ := r3
  obtain ⟨x, y⟩ := h
  have e : m = 0 ∨ m = 1 ∨ m = 2 ∨ m = 3 := by omega
  have e2 : n = 0 ∨ n = 1 ∨ n = 2 ∨ n = 3 := by omega
  have s0 : ∀ q : Nat, (((0 : Nat) : Int) * (q : Int) % 4).toNat = 0 := fun q => by omega
  have s10 : (((1 : Nat) : Int) * ((0 : Nat) : Int) % 4).toNat = 0 := by decide
  have s11 : (((1 : Nat) : Int) * ((1 : Nat) : Int) % 4).toNat = 1 := by decide
  have s12 : (((1 : Nat) : Int) * ((2 : Nat) : Int) % 4).toNat = 2 := by decide
  have s13 : (((1 : Nat) : Int) * ((3 : Nat) : Int) % 4).toNat = 3 := by decide
  have s20 : (((2 : Nat) : Int) * ((0 : Nat) : Int) % 4).toNat = 0 := by decide
  have s21 : (((2 : Nat) : Int) * ((1 : Nat) : Int) % 4).toNat = 2 := by decide
  have s22 : (((2 : Nat) : Int) * ((2 : Nat) : Int) % 4).toNat = 0 := by decide
  have s23 : (((2 : Nat) : Int) * ((3 : Nat) : Int) % 4).toNat = 2 := by decide
  have s30 : (((3 : Nat) : Int) * ((0 : Nat) : Int) % 4).toNat = 0 := by decide
  have s31 : (((3 : Nat) : Int) * ((1 : Nat) : Int) % 4).toNat = 3 := by decide
  have s32 : (((3 : Nat) : Int) * ((2 : Nat) : Int) % 4).toNat = 2 := by decide
  have s33 : (((3 : Nat) : Int) * ((3 : Nat) : Int) % 4).toNat = 1 := by decide
  rcases e with rfl | rfl | rfl | rfl <;> rcases e2 with rfl | rfl | rfl | rfl <;>
    (simp only [s0, s10, s11, s12, s13, s20, s21, s22, s23, s30, s31, s32, s33, turn0, turn1, turn2, turn3, gsubI, gmul]; simp; (try omega))

theorem lines_mono {lines : List Int} (h : linesE lines = 0) (i : Nat) : ∀ (d : Nat) (hj : i + d + 1 < lines.length), lines[i]'(by omega) < lines[i + d + 1]
  | 0, hj => (linesE_zero h (i + 1) hj).2.2 (by omega)
  | d + 1, hj => by
    have h1 := lines_mono h i d (by omega)
    have h2 := (linesE_zero h (i + (d + 1) + 1) hj).2.2 (by omega)
    simp only [Nat.add_sub_cancel] at h2
    have e : lines[i + (d + 1)]'(by omega) = lines[i + d + 1]'(by omega) := rfl
    omega
theorem lines_fresh {lines : List Int} (h : linesE lines = 0) {k : Nat} (hk : k < lines.length) : lines[k] ∉ lines.take k := fun hm => by
  obtain ⟨i, hi, e⟩ := List.getElem_of_mem hm
  have hik : i < k := by simp at hi; omega
  rw [List.getElem_take] at e
  have := lines_mono h i (k - i - 1) (by omega)
  have e2 : i + (k - i - 1) + 1 = k := by omega
  simp only [e2] at this
  omega

/-- The harmonics of a block from which the first ones of a list were taken. -/
theorem harm_rest (b0 b1 b2 b3 : Int × Int) {lines : List Int} (h : linesE lines = 0) (n : Nat) (hn : n < 4) : ∀ k, k ≤ lines.length →
    harmN [restN [b0, b1, b2, b3] lines 0 k, restN [b0, b1, b2, b3] lines 1 k, restN [b0, b1, b2, b3] lines 2 k, restN [b0, b1, b2, b3] lines 3 k] (n : Int) 4 =
      if (n : Int) ∈ lines.take k then (0, 0) else (4 * (harmN [b0, b1, b2, b3] (n : Int) 4).1, 4 * (harmN [b0, b1, b2, b3] (n : Int) 4).2)
  | 0, _ => by
    rw [if_neg (by simp)]
    rw [harm_four _ _ _ _ n hn, harm_four _ _ _ _ n hn]
    simp only [restN, List.getD_cons_zero, List.getD_cons_succ]
    have e2 : n = 0 ∨ n = 1 ∨ n = 2 ∨ n = 3 := by omega
    rcases e2 with rfl | rfl | rfl | rfl <;> (simp; omega)
  | k + 1, hk => by
    have hk' : k < lines.length := by omega
    obtain ⟨l0, l3, _⟩ := linesE_zero h k hk'
    have hfr := lines_fresh h hk'
    have hgd : lines.getD k 0 = lines[k] := by simp [List.getD, hk']
    have htk := List.take_succ_eq_append_getElem hk'
    have ih := harm_rest b0 b1 b2 b3 h n hn k (by omega)
    simp only [restN, hgd]
    rw [htk]
    generalize lines[k] = x at l0 l3 hfr
    obtain ⟨m, rfl⟩ := Int.eq_ofNat_of_zero_le l0
    have hm4 : m < 4 := by omega
    rw [harm_less _ _ _ _ _ m n hm4 hn, ih]
    by_cases hmn : m = n
    · subst hmn
      rw [if_pos rfl, if_neg hfr, if_pos (by simp)]
      simp [gsubI]
    · rw [if_neg hmn]
      have e : ((n : Int) ∈ lines.take k ++ [(m : Int)]) ↔ (n : Int) ∈ lines.take k := by
        simp only [List.mem_append, List.mem_singleton]
        constructor
        · rintro (h | h)
          · exact h
          · exact absurd (by omega) hmn
        · exact Or.inl
      by_cases hin : (n : Int) ∈ lines.take k
      · rw [if_pos hin, if_pos (e.2 hin)]
      · rw [if_neg hin, if_neg (fun h => hin (e.1 h))]

theorem clean_blk (samples : List (Int × Int)) (us : List Bool) (lines : List Int) {j : Nat} (hj : 4 * j + 3 < samples.length) (hu : allU us (4 * j) = true) :
    blk4 (cleanL samples us lines samples.length) j = [restN (blk4 samples j) lines 0 lines.length, restN (blk4 samples j) lines 1 lines.length, restN (blk4 samples j) lines 2 lines.length, restN (blk4 samples j) lines 3 lines.length] := by
  have hq : ∀ q, q < 4 → (cleanL samples us lines samples.length).getD (4 * j + q) (0, 0) = restN (blk4 samples j) lines q lines.length := fun q hq => by
    have h1 : 4 * j + q < samples.length := by omega
    have e1 : (4 * j + q) / 4 = j := by omega
    have e2 : (4 * j + q) % 4 = q := by omega
    simp [cleanL, List.getD, h1, cleanG, e1, e2, hu]
  have h0 := hq 0 (by omega)
  rw [Nat.add_zero] at h0
  rw [← h0, ← hq 1 (by omega), ← hq 2 (by omega), ← hq 3 (by omega)]
  rfl

theorem pw_clean {samples : List (Int × Int)} {us : List Bool} {lines : List Int} (h : linesE lines = 0) {j : Nat} (hj : 4 * j + 3 < samples.length) (hu : allU us (4 * j) = true) {n : Nat} (hn : n < 4) :
    pw (cleanL samples us lines samples.length) j n = if (n : Int) ∈ lines then 0 else 16 * pw samples j n := by
  unfold pw harmB
  rw [clean_blk samples us lines hj hu]
  have hr := harm_rest (samples.getD (4 * j) (0, 0)) (samples.getD (4 * j + 1) (0, 0)) (samples.getD (4 * j + 2) (0, 0)) (samples.getD (4 * j + 3) (0, 0)) h n hn lines.length (Nat.le_refl _)
  rw [List.take_length] at hr
  unfold blk4
  rw [hr]
  generalize harmN [samples.getD (4 * j) (0, 0), samples.getD (4 * j + 1) (0, 0), samples.getD (4 * j + 2) (0, 0), samples.getD (4 * j + 3) (0, 0)] (n : Int) 4 = H
  obtain ⟨x, y⟩ := H
  by_cases hin : (n : Int) ∈ lines
  · rw [if_pos hin, if_pos hin]; simp
  · rw [if_neg hin, if_neg hin]
    dsimp only
    grind

theorem allU_lt {us : List Bool} {f : Nat} (h : allU us f = true) : f + 3 < us.length := by
  have h3 := allU_iff.1 h 3 (by omega)
  by_cases hc : f + 3 < us.length
  · exact hc
  · simp [List.getD, show us.length ≤ f + 3 by omega] at h3

theorem pwSum_clean {samples : List (Int × Int)} {us : List Bool} (hl : us.length = samples.length) {lines : List Int} (h : linesE lines = 0) {n : Nat} (hn : n < 4) : ∀ js : List Nat, (∀ j ∈ js, allU us (4 * j) = true) →
    pwSum (cleanL samples us lines samples.length) js n = if (n : Int) ∈ lines then 0 else 16 * pwSum samples js n
  | [], _ => by simp [pwSum]
  | j :: js, hj => by
    have ih := pwSum_clean hl h hn js fun j' h' => hj j' (by simp [h'])
    have hu := hj j (by simp)
    have h1 := pw_clean h (samples := samples) (us := us) (j := j) (by have := allU_lt hu; omega) hu hn
    have e1 : pwSum (cleanL samples us lines samples.length) (j :: js) n = pw (cleanL samples us lines samples.length) j n + pwSum (cleanL samples us lines samples.length) js n := by simp [pwSum]
    have e2 : pwSum samples (j :: js) n = pw samples j n + pwSum samples js n := by simp [pwSum]
    rw [e1, e2, h1, ih]
    by_cases hin : (n : Int) ∈ lines
    · rw [if_pos hin, if_pos hin, if_pos hin]; rfl
    · rw [if_neg hin, if_neg hin, if_neg hin]; omega

/-- The energy of a number, of a block, of blocks. -/
def gnorm (g : Int × Int) : Int := g.1 * g.1 + g.2 * g.2
def enB (samples : List (Int × Int)) (j : Nat) : Int := gnorm (samples.getD (4 * j) (0, 0)) + gnorm (samples.getD (4 * j + 1) (0, 0)) + gnorm (samples.getD (4 * j + 2) (0, 0)) + gnorm (samples.getD (4 * j + 3) (0, 0))
def enSum (samples : List (Int × Int)) (js : List Nat) : Int := (js.map (enB samples)).sum
theorem pw_all (samples : List (Int × Int)) (j : Nat) : pw samples j 0 + pw samples j 1 + pw samples j 2 + pw samples j 3 = 4 * enB samples j := by
  unfold pw harmB blk4 enB gnorm
  generalize samples.getD (4 * j) (0, 0) = r0
  generalize samples.getD (4 * j + 1) (0, 0) = r1
  generalize samples.getD (4 * j + 2) (0, 0) = r2
  generalize samples.getD (4 * j + 3) (0, 0) = r3
  have h0 := harm_four r0 r1 r2 r3 0 (by omega)
  have h1 := harm_four r0 r1 r2 r3 1 (by omega)
  have h2 := harm_four r0 r1 r2 r3 2 (by omega)
  have h3 := harm_four r0 r1 r2 r3 3 (by omega)
  rw [if_pos rfl] at h0
  rw [if_neg (by omega), if_pos rfl] at h1
  rw [if_neg (by omega), if_neg (by omega), if_pos rfl] at h2
  rw [if_neg (by omega), if_neg (by omega), if_neg (by omega)] at h3
  rw [h0, h1, h2, h3]
  obtain ⟨a0, b0⟩ := r0
  obtain ⟨a1, b1⟩ := r1
  obtain ⟨a2, b2⟩ := r2
  obtain ⟨a3, b3⟩ := r3
  dsimp only
  grind
theorem pwSum_all (samples : List (Int × Int)) : ∀ js : List Nat, pwSum samples js 0 + pwSum samples js 1 + pwSum samples js 2 + pwSum samples js 3 = 4 * enSum samples js
  | [] => by simp [pwSum, enSum]
  | j :: js => by
    have ih := pwSum_all samples js
    have h := pw_all samples j
    have e : ∀ n, pwSum samples (j :: js) n = pw samples j n + pwSum samples js n := fun n => by simp [pwSum]
    have e2 : enSum samples (j :: js) = enB samples j + enSum samples js := by simp [enSum]
    rw [e, e, e, e, e2]; omega

/-- Four times a number of at most M, less harmonics. -/
theorem gle_restM {M : Int} (hM : 0 ≤ M) {L : List (Int × Int)} (h : ∀ q, gle M (L.getD q (0, 0))) (lines : List Int) (q : Nat) : ∀ k : Nat, gle (((k : Int) + 1) * (4 * M)) (restN L lines q k)
  | 0 => by
    obtain ⟨h1, h2, h3, h4⟩ := h q
    simp only [gle, restN]
    omega
  | k + 1 => by
    have hk : ((lines.getD k 0 * (q : Int)) % 4).toNat < 4 := by omega
    obtain ⟨h1, h2, h3, h4⟩ := gle_restM hM h lines q k
    obtain ⟨e1, e2, e3, e4⟩ := gle_mulTurn (gle_harm h (lines.getD k 0) 4) hk
    have e : ((k + 1 : Nat) : Int) + 1 = ((k : Int) + 1) + 1 := by omega
    simp only [gle, restN, gsubI]
    rw [e, Int.add_mul]
    generalize ((k : Int) + 1) * (4 * M) = T at h1 h2 h3 h4 ⊢
    omega

theorem usable_at {limit : Int} {samples : List (Int × Int)} {gaps : List Int} {i : Nat} (hi : i < samples.length) : (usableL limit samples gaps).getD i false = usableB limit samples gaps i := by
  simp [usableL, List.getD, hi]
theorem mem_idxL (us : List Bool) (b : Bool) : ∀ (k i : Nat), (i : Int) ∈ idxL us b k ↔ i < k ∧ us.getD i false = b
  | 0, i => by simp [idxL]
  | k + 1, i => by
    have ih := mem_idxL us b k i
    rw [idxL]
    by_cases h : us.getD k false = b
    · rw [if_pos h, List.mem_append, ih, List.mem_singleton]
      constructor
      · rintro (⟨h1, h2⟩ | h1)
        · exact ⟨by omega, h2⟩
        · obtain rfl : i = k := by omega
          exact ⟨by omega, h⟩
      · rintro ⟨h1, h2⟩
        by_cases e : i = k
        · exact Or.inr (by omega)
        · exact Or.inl ⟨by omega, h2⟩
    · rw [if_neg h, ih]
      constructor
      · rintro ⟨h1, h2⟩; exact ⟨by omega, h2⟩
      · rintro ⟨h1, h2⟩
        refine ⟨?_, h2⟩
        by_cases e : i = k
        · subst e; exact absurd h2 h
        · omega
theorem idxL_bd (us : List Bool) (b : Bool) : ∀ (k : Nat), ∀ x ∈ idxL us b k, 0 ≤ x ∧ x < (k : Int)
  | 0, x, h => by simp [idxL] at h
  | k + 1, x, h => by
    rw [idxL] at h
    split at h
    · rcases List.mem_append.1 h with h | h
      · have := idxL_bd us b k x h; omega
      · have : x = (k : Int) := by simpa using h
        omega
    · have := idxL_bd us b k x h; omega
theorem idxL_asc (us : List Bool) (b : Bool) : ∀ (k i : Nat) (h : i + 1 < (idxL us b k).length), (idxL us b k)[i]'(by omega) < (idxL us b k)[i + 1]
  | 0, i, h => by simp [idxL] at h
  | k + 1, i, h => by
    by_cases hk : us.getD k false = b
    · have e : idxL us b (k + 1) = idxL us b k ++ [(k : Int)] := by rw [idxL, if_pos hk]
      simp only [e] at h ⊢
      by_cases hi : i + 1 < (idxL us b k).length
      · rw [List.getElem_append_left hi, List.getElem_append_left (by omega)]
        exact idxL_asc us b k i hi
      · have hl : i + 1 = (idxL us b k).length := by simp at h; omega
        rw [List.getElem_append_left (by omega), List.getElem_append_right (by omega)]
        have := idxL_bd us b k _ (List.getElem_mem (show i < (idxL us b k).length by omega))
        simp only [hl, Nat.sub_self, List.getElem_cons_zero]
        omega
    · have e : idxL us b (k + 1) = idxL us b k := by rw [idxL, if_neg hk]
      simp only [e] at h ⊢
      exact idxL_asc us b k i h

theorem outB_in {n lo hi : Int} (h1 : lo ≤ n) (h2 : n ≤ hi) : outB n lo hi = false := outB_false.2 ⟨h1, h2⟩
theorem beyB_of {g : Int × Int} {M : Int} (h : gle M g) : beyB g M = false := by
  obtain ⟨h1, h2, h3, h4⟩ := h
  unfold beyB
  rw [outB_in h1 h2, outB_in h3 h4]; rfl
theorem gle_of_beyB {g : Int × Int} {M : Int} (h : beyB g M = false) : gle M g := by
  unfold beyB at h
  cases h1 : outB g.1 (-M) M
  · cases h2 : outB g.2 (-M) M
    · have a := outB_false.1 h1
      have b := outB_false.1 h2
      exact ⟨a.1, a.2, b.1, b.2⟩
    · rw [h1, h2] at h; cases h
  · rw [h1] at h; simp at h

/-- What is cleaned is valid, and as usable. -/
theorem gle_cleanG {M : Int} (hM : 0 ≤ M) {samples : List (Int × Int)} (h : ∀ g ∈ samples, gle M g) (us : List Bool) {lines : List Int} (hl : lines.length ≤ 4) (i : Nat) : gle (20 * M) (cleanG samples us lines i) := by
  obtain ⟨h1, h2, h3, h4⟩ := gle_restM hM (L := blk4 samples (i / 4)) (fun q => gle_blk4 hM h _ q) lines (i % 4) (if allU us (4 * (i / 4)) = true then lines.length else 0)
  unfold cleanG
  generalize restN (blk4 samples (i / 4)) lines (i % 4) (if allU us (4 * (i / 4)) = true then lines.length else 0) = r at h1 h2 h3 h4 ⊢
  have hk : ((if allU us (4 * (i / 4)) = true then lines.length else 0 : Nat) : Int) + 1 ≤ 5 := by split <;> omega
  have h0 : (0 : Int) ≤ ((if allU us (4 * (i / 4)) = true then lines.length else 0 : Nat) : Int) + 1 := by omega
  generalize ((if allU us (4 * (i / 4)) = true then lines.length else 0 : Nat) : Int) + 1 = T at hk h0 h1 h2 h3 h4
  have hT : T * (4 * M) ≤ 5 * (4 * M) := Int.mul_le_mul_of_nonneg_right hk (by omega)
  simp only [gle]
  omega

theorem clean_usable {gain limit : Int} {samples : List (Int × Int)} {gaps lines : List Int} (hv : (frameE gain limit samples gaps).2 = 0) (hl : lines.length ≤ 4) :
    usableL (20 * limit) (cleanL samples (usableL limit samples gaps) lines samples.length) (idxL (usableL limit samples gaps) false samples.length) = usableL limit samples gaps := by
  obtain ⟨hh, _, _⟩ := frameE_zero hv
  obtain ⟨_, _, l1, _, _, _⟩ := headE_zero hh
  have hcl := cleanL_length samples (usableL limit samples gaps) lines samples.length
  apply List.ext_getElem?
  intro i
  by_cases hi : i < samples.length
  · have h1 : ∀ (lim : Int) (s : List (Int × Int)) (g : List Int), i < s.length → (usableL lim s g)[i]? = some (usableB lim s g i) := fun lim s g h => by simp [usableL, h]
    rw [h1 _ _ _ (by rw [hcl]; exact hi), h1 _ _ _ hi]
    congr 1
    have hu := usable_at (limit := limit) (gaps := gaps) hi
    rw [← hu]
    have hm := mem_idxL (usableL limit samples gaps) false samples.length i
    have hcg : (cleanL samples (usableL limit samples gaps) lines samples.length).getD i (0, 0) = cleanG samples (usableL limit samples gaps) lines i := by simp [cleanL, List.getD, hi]
    unfold usableB
    rw [hcg]
    cases hb : (usableL limit samples gaps).getD i false
    · have hc : (idxL (usableL limit samples gaps) false samples.length).contains (i : Int) = true := by
        rw [List.contains_iff_mem]
        exact hm.2 ⟨hi, hb⟩
      rw [hc]; simp
    · have hc : (idxL (usableL limit samples gaps) false samples.length).contains (i : Int) = false := by
        cases h : (idxL (usableL limit samples gaps) false samples.length).contains (i : Int)
        · rfl
        · rw [List.contains_iff_mem] at h
          have := (hm.1 h).2
          rw [hb] at this; cases this
      rw [hc]
      have hat : ∀ k, k < samples.length → (usableL limit samples gaps).getD k false = true → gle (limit - 1) (samples.getD k (0, 0)) := fun k hk h => by
        rw [usable_at hk] at h
        unfold usableB at h
        apply gle_of_beyB
        cases hb2 : beyB (samples.getD k (0, 0)) (limit - 1)
        · rfl
        · rw [hb2] at h; simp at h
      have hg : gle (20 * limit - 1) (cleanG samples (usableL limit samples gaps) lines i) := by
        by_cases ha : allU (usableL limit samples gaps) (4 * (i / 4)) = true
        · have hlt := allU_lt ha
          have hul : (usableL limit samples gaps).length = samples.length := by simp [usableL]
          have hq : ∀ q, gle (limit - 1) ((blk4 samples (i / 4)).getD q (0, 0)) := fun q => by
            by_cases hq : q < 4
            · rw [blk4_at samples (i / 4) q hq]
              exact hat _ (by omega) (allU_iff.1 ha q hq)
            · have : (blk4 samples (i / 4)).getD q (0, 0) = (0, 0) := by
                simp [blk4, List.getD, show 4 ≤ q by omega]
              rw [this]; simp only [gle]; omega
          obtain ⟨e1, e2, e3, e4⟩ := gle_restM (by omega) hq lines (i % 4) lines.length
          unfold cleanG
          rw [if_pos ha]
          generalize restN (blk4 samples (i / 4)) lines (i % 4) lines.length = r at e1 e2 e3 e4 ⊢
          have hk : (lines.length : Int) + 1 ≤ 5 := by omega
          have hT : ((lines.length : Int) + 1) * (4 * (limit - 1)) ≤ 5 * (4 * (limit - 1)) := Int.mul_le_mul_of_nonneg_right hk (by omega)
          generalize ((lines.length : Int) + 1) * (4 * (limit - 1)) = T at e1 e2 e3 e4 hT
          simp only [gle]
          omega
        · unfold cleanG
          rw [if_neg ha, rest_zero]
          obtain ⟨e1, e2, e3, e4⟩ := hat i hi hb
          simp only [gle]
          omega
      rw [beyB_of hg]; rfl
  · have hl1 : ∀ (lim : Int) (s : List (Int × Int)) (g : List Int), (usableL lim s g).length = s.length := fun lim s g => by simp [usableL]
    rw [List.getElem?_eq_none (show (usableL (20 * limit) _ _).length ≤ i by rw [hl1, hcl]; omega), List.getElem?_eq_none (show (usableL limit _ _).length ≤ i by rw [hl1]; omega)]

theorem gapE_idx (us : List Bool) (b : Bool) (n i : Nat) (hi : i < (idxL us b n).length) : gapE n (idxL us b n) i (idxL us b n)[i] = 0 := by
  have hb := idxL_bd us b n _ (List.getElem_mem hi)
  by_cases h : 0 < i
  · have ha := idxL_asc us b n (i - 1) (by omega)
    have e : (idxL us b n).getD (i - 1) 0 = (idxL us b n)[i - 1]'(by omega) := by simp [List.getD, show i - 1 < (idxL us b n).length by omega]
    have e2 : i - 1 + 1 = i := by omega
    simp only [e2] at ha
    unfold gapE
    rw [e]
    generalize (idxL us b n)[i - 1]'(by omega) = y at ha ⊢
    generalize (idxL us b n)[i] = x at hb ha ⊢
    rw [outB_in hb.1 (by omega), decide_eq_false (p := x ≤ y) (by omega)]
    simp [firstE, errIf]
  · unfold gapE
    generalize (idxL us b n)[i] = x at hb ⊢
    rw [outB_in hb.1 (by omega)]
    simp [firstE, errIf, h]

theorem clean_valid {gain limit : Int} {samples : List (Int × Int)} {gaps lines : List Int} (hv : (frameE gain limit samples gaps).2 = 0) (hz : remE gain limit lines = 0) :
    (frameE (gain - 2) (20 * limit) (cleanL samples (usableL limit samples gaps) lines samples.length) (idxL (usableL limit samples gaps) false samples.length)).2 = 0 := by
  obtain ⟨hh, hsamp, _⟩ := frameE_zero hv
  obtain ⟨q1, q2, l1, l2, n1, n2⟩ := headE_zero hh
  have hcl := cleanL_length samples (usableL limit samples gaps) lines samples.length
  obtain ⟨z1, z2, z3⟩ : linesE lines = 0 ∧ 20 * limit ≤ 2000000 ∧ -8 ≤ gain - 2 := by
    unfold remE at hz
    by_cases h : linesE lines = 0
    · rw [if_neg (by simpa using h)] at hz
      refine ⟨h, ?_, ?_⟩ <;> (split at hz <;> first | (cases hz; done) | (split at hz <;> first | (cases hz; done) | omega) | omega)
    · rw [if_pos h] at hz; exact absurd hz h
  have h0 : headE (gain - 2) (20 * limit) (cleanL samples (usableL limit samples gaps) lines samples.length).length = 0 := by
    rw [hcl]
    unfold headE
    rw [outB_in (by omega) (by omega), outB_in (by omega) (by omega), lenE_eq, if_neg (by omega), if_neg (by omega)]
    rfl
  have h1 : ∀ j (hj : j < (cleanL samples (usableL limit samples gaps) lines samples.length).length), sampleE (20 * limit) (cleanL samples (usableL limit samples gaps) lines samples.length)[j] = 0 := fun j hj => by
    have hg := gle_cleanG (M := limit) (by omega) (fun g hg => hsamp g hg) (usableL limit samples gaps) (lines_four z1) j
    have e : (cleanL samples (usableL limit samples gaps) lines samples.length)[j] = cleanG samples (usableL limit samples gaps) lines j := by simp [cleanL]
    rw [e]
    unfold sampleE
    rw [beyB_of hg]; rfl
  rw [frameE_gaps h0 h1]
  rw [hcl, firstBadFrom_none _ _ 0 fun i hi => by rw [Nat.zero_add]; exact gapE_idx _ _ _ i hi]
end Go.Proofs.YtnigmdkhecblnaaDoor
