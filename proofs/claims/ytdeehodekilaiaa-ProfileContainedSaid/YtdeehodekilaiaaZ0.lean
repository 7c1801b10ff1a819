/- Profiles with a valley, as plain data: what they delay, where they reflect. No condition. -/
import Derived.Test.YtdeehodekilaiaaFX
set_option linter.unusedSimpArgs false
set_option linter.unusedVariables false
namespace Go.Proofs.Ytdeehodekilaiaa

/-- The slabs of frequencies and thicknesses. -/
def slabL (fs ts : List Int) : List G := (List.range fs.length).map fun j => (fs.getD j 0 * fs.getD j 0, ts.getD j 0)
@[simp] theorem slabL_length (fs ts : List Int) : (slabL fs ts).length = fs.length := by simp [slabL]
theorem slabL_at {fs ts : List Int} {j : Nat} (h : j < fs.length) : (slabL fs ts).getD j G0 = (fs.getD j 0 * fs.getD j 0, ts.getD j 0) := by
  rw [getD_at (by simpa using h)]
  simp [slabL]
/-- The slabs with a valley of a width and a square behind one of them. -/
def vallL (fs ts : List Int) (af : Nat) (w sq : Int) : List G := if af + 1 < fs.length ∧ 0 < w then ((slabL fs ts).take (af + 1) ++ [(sq, w)]) ++ (slabL fs ts).drop (af + 1) else slabL fs ts

/-- A sample. -/
structure Samp (fs ts : List Int) (B : Int) (af : Nat) (w W sq : Int) : Prop where
  n0 : 1 ≤ fs.length
  n1 : fs.length ≤ 8
  nt : ts.length = fs.length
  b0 : 0 ≤ B
  b1 : B ≤ 500
  a1 : af < fs.length
  w0 : 0 ≤ w
  w1 : w ≤ W
  W1 : W ≤ 500
  s0 : 0 ≤ sq
  s1 : sq < fs.getD af 0 * fs.getD af 0
  f0 : ∀ k, k < fs.length → 1 ≤ fs.getD k 0 ∧ fs.getD k 0 ≤ 3000
  up : ∀ k, k + 1 < fs.length → fs.getD k 0 < fs.getD (k + 1) 0
  t0 : ∀ k, k < fs.length → 0 ≤ ts.getD k 0 ∧ ts.getD k 0 ≤ 500

theorem Samp.lt {fs ts : List Int} {B : Int} {af : Nat} {w W sq : Int} (h : Samp fs ts B af w W sq) {j k : Nat} (hjk : j < k) (hk : k < fs.length) : fs.getD j 0 < fs.getD k 0 := by
  induction k with
  | zero => omega
  | succ k ih =>
    have := h.up k hk
    rcases Nat.lt_or_ge j k with h1 | h1
    · have := ih h1 (by omega); omega
    · have : j = k := by omega
      subst this; assumption
theorem Samp.sq {fs ts : List Int} {B : Int} {af : Nat} {w W sq : Int} (h : Samp fs ts B af w W sq) {j k : Nat} (hjk : j < k) (hk : k < fs.length) : fs.getD j 0 * fs.getD j 0 < fs.getD k 0 * fs.getD k 0 :=
  sq_lt_sq (by have := (h.f0 j (by omega)).1; omega) (h.lt hjk hk)
theorem Samp.sqb {fs ts : List Int} {B : Int} {af : Nat} {w W sq : Int} (h : Samp fs ts B af w W sq) {k : Nat} (hk : k < fs.length) : 1 ≤ fs.getD k 0 * fs.getD k 0 ∧ fs.getD k 0 * fs.getD k 0 ≤ 9000000 := by
  obtain ⟨a, b⟩ := h.f0 k hk
  have h1 := mul_bd (show 0 ≤ fs.getD k 0 by omega) b (show 0 ≤ fs.getD k 0 by omega) b
  have h2 := Int.mul_le_mul a a (by omega) (show 0 ≤ fs.getD k 0 by omega)
  omega
theorem Samp.slabs_mem {fs ts : List Int} {B : Int} {af : Nat} {w W sq : Int} (h : Samp fs ts B af w W sq) : ∀ g ∈ slabL fs ts, 0 ≤ g.1 ∧ g.1 ≤ 9000000 ∧ 0 ≤ g.2 ∧ g.2 ≤ 500 := fun g hg => by
  obtain ⟨i, hi, rfl⟩ := List.getElem_of_mem hg
  have hi' : i < fs.length := by simpa using hi
  rw [← getD_at hi G0, slabL_at hi']
  have := h.sqb hi'
  have := h.t0 i hi'
  dsimp only
  omega
theorem Samp.pro {fs ts : List Int} {B : Int} {af : Nat} {w W sq : Int} (h : Samp fs ts B af w W sq) : Pro B (vallL fs ts af w sq) := by
  have n0 := h.n0
  have n1 := h.n1
  have a1 := h.a1
  unfold vallL
  split
  · refine ⟨h.b0, h.b1, by simp; omega, by simp; omega, fun g hg => ?_⟩
    rcases List.mem_append.1 hg with hg | hg
    · rcases List.mem_append.1 hg with hg | hg
      · exact h.slabs_mem g (List.mem_of_mem_take hg)
      · simp only [List.mem_singleton] at hg
        subst hg
        have := h.sqb (k := af) a1
        have := h.s0
        have := h.s1
        have := h.w0
        have := h.w1
        have := h.W1
        dsimp only
        omega
    · exact h.slabs_mem g (List.mem_of_mem_drop hg)
  · exact ⟨h.b0, h.b1, by simpa using n0, by simp; omega, h.slabs_mem⟩

/-- Where the slab j lies. -/
theorem vall_lo {fs ts : List Int} {af : Nat} {w sq : Int} (hv : af + 1 < fs.length ∧ 0 < w) {j : Nat} (hj : j ≤ af) : (vallL fs ts af w sq).getD j G0 = (fs.getD j 0 * fs.getD j 0, ts.getD j 0) := by
  unfold vallL
  rw [if_pos hv, List.getD, List.getElem?_append_left (by simp; omega), List.getElem?_append_left (by simp; omega), List.getElem?_take_of_lt (by omega)]
  exact slabL_at (by omega)
theorem vall_mid {fs ts : List Int} {af : Nat} {w sq : Int} (hv : af + 1 < fs.length ∧ 0 < w) : (vallL fs ts af w sq).getD (af + 1) G0 = (sq, w) := by
  unfold vallL
  rw [if_pos hv, List.getD, List.getElem?_append_left (by simp; omega), List.getElem?_append_right (by simp; omega)]
  simp [show min (af + 1) fs.length = af + 1 by omega]
theorem vall_hi {fs ts : List Int} {af : Nat} {w sq : Int} (hv : af + 1 < fs.length ∧ 0 < w) {j : Nat} (hj : af < j) (hn : j < fs.length) : (vallL fs ts af w sq).getD (j + 1) G0 = (fs.getD j 0 * fs.getD j 0, ts.getD j 0) := by
  unfold vallL
  rw [if_pos hv, List.getD, List.getElem?_append_right (by simp; omega), List.getElem?_drop]
  have : af + 1 + (j + 1 - ((slabL fs ts).take (af + 1) ++ [(sq, w)]).length) = j := by simp; omega
  rw [this]
  exact slabL_at hn
theorem vall_no {fs ts : List Int} {af : Nat} {w sq : Int} (hv : ¬ (af + 1 < fs.length ∧ 0 < w)) : vallL fs ts af w sq = slabL fs ts := by unfold vallL; rw [if_neg hv]
theorem vall_length {fs ts : List Int} {af : Nat} {w sq : Int} (hv : af + 1 < fs.length ∧ 0 < w) : (vallL fs ts af w sq).length = fs.length + 1 := by
  unfold vallL
  rw [if_pos hv]
  simp
  omega

/-- How many slabs the frequency k passes. -/
def vpos (fs : List Int) (af : Nat) (w : Int) (k : Nat) : Nat := if (af + 1 < fs.length ∧ 0 < w) ∧ af < k then k + 1 else k
theorem vall_pass {fs ts : List Int} {B : Int} {af : Nat} {w W sq : Int} (h : Samp fs ts B af w W sq) {k : Nat} (hk : k < fs.length) : passN (vallL fs ts af w sq) (fs.getD k 0) = vpos fs af w k ∧ vpos fs af w k < (vallL fs ts af w sq).length := by
  by_cases hv : af + 1 < fs.length ∧ 0 < w
  · have hlen := vall_length (ts := ts) (sq := sq) hv
    have hs1 := h.s1
    by_cases hak : af < k
    · have hp : vpos fs af w k = k + 1 := by unfold vpos; rw [if_pos ⟨hv, hak⟩]
      rw [hp]
      refine ⟨passN_eq (by omega) (fun j hj hlt => ?_) (fun hj => ?_), by omega⟩
      · rw [← getD_at hj G0]
        rcases Nat.lt_or_ge af j with h1 | h1
        · rcases Nat.lt_or_ge (af + 1) j with h2 | h2
          · obtain ⟨i, rfl⟩ : ∃ i, j = i + 1 := ⟨j - 1, by omega⟩
            rw [vall_hi hv (by omega) (by omega)]
            exact h.sq (by omega) hk
          · have : j = af + 1 := by omega
            subst this
            rw [vall_mid hv]
            have := h.sq hak hk
            dsimp only
            omega
        · rw [vall_lo hv h1]
          exact h.sq (by omega) hk
      · rw [← getD_at hj G0, vall_hi hv hak hk]
        exact Int.le_refl _
    · have hp : vpos fs af w k = k := by unfold vpos; rw [if_neg (fun x => hak x.2)]
      rw [hp]
      refine ⟨passN_eq (by omega) (fun j hj hlt => ?_) (fun hj => ?_), by omega⟩
      · rw [← getD_at hj G0, vall_lo hv (by omega)]
        exact h.sq hlt hk
      · rw [← getD_at hj G0, vall_lo hv (by omega)]
        exact Int.le_refl _
  · have hp : vpos fs af w k = k := by unfold vpos; rw [if_neg (fun x => hv x.1)]
    rw [hp, vall_no hv]
    refine ⟨passN_eq (by simp; omega) (fun j hj hlt => ?_) (fun hj => ?_), by simpa using hk⟩
    · rw [← getD_at hj G0, slabL_at (by omega)]
      exact h.sq hlt hk
    · rw [← getD_at hj G0, slabL_at hk]
      exact Int.le_refl _

/-- What the first slabs delay a frequency, without and with the valley. -/
def tS (fs ts : List Int) (f : Int) : Nat → G
  | 0 => (0, 0)
  | j + 1 => ((tS fs ts f j).1 + ts.getD j 0 * (idx (fs.getD j 0 * fs.getD j 0) f).1, (tS fs ts f j).2 + ts.getD j 0 * (idx (fs.getD j 0 * fs.getD j 0) f).2)
def tH (ts : List Int) : Nat → Int
  | 0 => 0
  | j + 1 => tH ts j + ts.getD j 0
theorem dly_slabL {fs ts : List Int} {B f : Int} {j : Nat} (hj : j ≤ fs.length) : dly B (slabL fs ts) f j = (1000 * B + (tS fs ts f j).1, 1000 * B + (tS fs ts f j).2) := by
  induction j with
  | zero => simp [dly, tS]
  | succ j ih =>
    have := ih (by omega)
    unfold dly
    rw [this, slabL_at (by omega)]
    simp only [tS]
    rw [Int.add_assoc, Int.add_assoc]
theorem dly_lo {fs ts : List Int} {B f : Int} {af : Nat} {w sq : Int} (hv : af + 1 < fs.length ∧ 0 < w) {j : Nat} (hj : j ≤ af + 1) : dly B (vallL fs ts af w sq) f j = (1000 * B + (tS fs ts f j).1, 1000 * B + (tS fs ts f j).2) := by
  induction j with
  | zero => simp [dly, tS]
  | succ j ih =>
    have := ih (by omega)
    unfold dly
    rw [this, vall_lo hv (by omega)]
    simp only [tS]
    rw [Int.add_assoc, Int.add_assoc]
theorem dly_hi {fs ts : List Int} {B f : Int} {af : Nat} {w sq : Int} (hv : af + 1 < fs.length ∧ 0 < w) {j : Nat} (hj : j < fs.length) (ha : af < j) : dly B (vallL fs ts af w sq) f (j + 1) = (1000 * B + (tS fs ts f j).1 + w * (idx sq f).1, 1000 * B + (tS fs ts f j).2 + w * (idx sq f).2) := by
  induction j with
  | zero => omega
  | succ j ih =>
    rcases Nat.lt_or_ge af j with h1 | h1
    · have := ih (by omega) h1
      rw [dly, this, vall_hi hv h1 (by omega)]
      simp only [tS, Prod.mk.injEq]
      omega
    · have : j = af := by omega
      subst this
      rw [dly, dly_lo hv (Nat.le_refl _), vall_mid hv]
theorem hgt_slabL {fs ts : List Int} {B : Int} {j : Nat} (hj : j ≤ fs.length) : hgt B (slabL fs ts) j = B + tH ts j := by
  induction j with
  | zero => simp [hgt, tH]
  | succ j ih =>
    have := ih (by omega)
    unfold hgt
    rw [this, slabL_at (by omega)]
    simp only [tH]
    omega
theorem hgt_lo {fs ts : List Int} {B : Int} {af : Nat} {w sq : Int} (hv : af + 1 < fs.length ∧ 0 < w) {j : Nat} (hj : j ≤ af + 1) : hgt B (vallL fs ts af w sq) j = B + tH ts j := by
  induction j with
  | zero => simp [hgt, tH]
  | succ j ih =>
    have := ih (by omega)
    unfold hgt
    rw [this, vall_lo hv (by omega)]
    simp only [tH]
    omega
theorem hgt_hi {fs ts : List Int} {B : Int} {af : Nat} {w sq : Int} (hv : af + 1 < fs.length ∧ 0 < w) {j : Nat} (hj : j < fs.length) (ha : af < j) : hgt B (vallL fs ts af w sq) (j + 1) = B + tH ts j + w := by
  induction j with
  | zero => omega
  | succ j ih =>
    rcases Nat.lt_or_ge af j with h1 | h1
    · have := ih (by omega) h1
      rw [hgt, this, vall_hi hv h1 (by omega)]
      simp only [tH]
      omega
    · have : j = af := by omega
      subst this
      rw [hgt, hgt_lo hv (Nat.le_refl _), vall_mid hv]
/-- What the valley delays, and lifts. -/
def vS (f : Int) (af : Nat) (w sq : Int) (k : Nat) : G := if af < k then (w * (idx sq f).1, w * (idx sq f).2) else (0, 0)
theorem vall_virt {fs ts : List Int} {B : Int} {af : Nat} {w W sq : Int} (h : Samp fs ts B af w W sq) {k : Nat} (hk : k < fs.length) :
    virt B (vallL fs ts af w sq) (fs.getD k 0) = ((1000 * B + (tS fs ts (fs.getD k 0) k).1 + (vS (fs.getD k 0) af w sq k).1) / 1000, up (1000 * B + (tS fs ts (fs.getD k 0) k).2 + (vS (fs.getD k 0) af w sq k).2) 1000) := by
  unfold virt
  rw [(vall_pass h hk).1]
  by_cases hv : af + 1 < fs.length ∧ 0 < w
  · by_cases hak : af < k
    · have hp : vpos fs af w k = k + 1 := by unfold vpos; rw [if_pos ⟨hv, hak⟩]
      rw [hp, dly_hi hv hk hak]
      unfold vS
      rw [if_pos hak]
    · have hp : vpos fs af w k = k := by unfold vpos; rw [if_neg (fun x => hak x.2)]
      rw [hp, dly_lo hv (by omega)]
      unfold vS
      rw [if_neg hak]
      simp
  · have hp : vpos fs af w k = k := by unfold vpos; rw [if_neg (fun x => hv x.1)]
    rw [hp, vall_no hv, dly_slabL (by omega)]
    have hz : vS (fs.getD k 0) af w sq k = (0, 0) := by
      unfold vS
      split
      · have hw : w = 0 := by have := h.w0; have := h.a1; omega
        subst hw
        simp
      · rfl
    rw [hz]
    simp
theorem vall_hgt {fs ts : List Int} {B : Int} {af : Nat} {w W sq : Int} (h : Samp fs ts B af w W sq) {k : Nat} (hk : k < fs.length) : hgt B (vallL fs ts af w sq) (vpos fs af w k) = B + tH ts k + (if af < k then w else 0) := by
  by_cases hv : af + 1 < fs.length ∧ 0 < w
  · by_cases hak : af < k
    · have hp : vpos fs af w k = k + 1 := by unfold vpos; rw [if_pos ⟨hv, hak⟩]
      rw [hp, hgt_hi hv hk hak, if_pos hak]
    · have hp : vpos fs af w k = k := by unfold vpos; rw [if_neg (fun x => hak x.2)]
      rw [hp, hgt_lo hv (by omega), if_neg hak]
      omega
  · have hp : vpos fs af w k = k := by unfold vpos; rw [if_neg (fun x => hv x.1)]
    rw [hp, vall_no hv, hgt_slabL (by omega)]
    split
    · have hw : w = 0 := by have := h.w0; have := h.a1; omega
      omega
    · omega
end Go.Proofs.Ytdeehodekilaiaa
