/- The trace of a sample, with its pixels: what it holds. No condition. -/
import Derived.Test.YtdeehodekilaiaaQB
import Derived.Test.YtdeehodekilaiaaZ1
set_option linter.unusedSimpArgs false
set_option linter.unusedVariables false
namespace Go.Proofs.Ytdeehodekilaiaa

/-- The virtual heights of the number k. -/
def vK (fs ts : List Int) (B : Int) (af : Nat) (w sq : Int) (k : Nat) : G := virt B (vallL fs ts af w sq) (fs.getD k 0)
/-- Its height. -/
def hK (fs ts : List Int) (B : Int) (af : Nat) (w sq : Int) (k : Nat) : Int := hgt B (vallL fs ts af w sq) (vpos fs af w k)
/-- Its point, with its pixel. -/
def ptK (fs ts vs : List Int) (B : Int) (af : Nat) (w sq : Int) (k : Nat) : PT := (fs.getD k 0, max 0 ((vK fs ts B af w sq k).1 - vs.getD k 0), (vK fs ts B af w sq k).2 + vs.getD k 0)
/-- The points, the first k with their pixels. -/
def pixL (fs ts vs : List Int) (B : Int) (af : Nat) (w sq : Int) (k : Nat) : List PT := (List.range fs.length).map fun j => if j < k then ptK fs ts vs B af w sq j else (fs.getD j 0, 0, 0)
@[simp] theorem pixL_length (fs ts vs : List Int) (B : Int) (af : Nat) (w sq : Int) (k : Nat) : (pixL fs ts vs B af w sq k).length = fs.length := by simp [pixL]
theorem pixL_zero (fs ts vs : List Int) (B : Int) (af : Nat) (w sq : Int) : pixL fs ts vs B af w sq 0 = bareL fs fs.length := by simp [pixL, bareL]
theorem pixL_at {fs ts vs : List Int} {B : Int} {af : Nat} {w sq : Int} {k j : Nat} (hj : j < fs.length) : (pixL fs ts vs B af w sq k).getD j P0 = if j < k then ptK fs ts vs B af w sq j else (fs.getD j 0, 0, 0) := by
  rw [getD_at (by simpa using hj)]
  simp [pixL]
theorem pixL_succ {fs ts vs : List Int} {B : Int} {af : Nat} {w sq : Int} {k : Nat} (hk : k < fs.length) : pixL fs ts vs B af w sq (k + 1) = (pixL fs ts vs B af w sq k).set k (ptK fs ts vs B af w sq k) := by
  refine List.ext_getElem (by simp) (fun i h1 h2 => ?_)
  simp only [pixL, List.getElem_set, List.getElem_map, List.getElem_range]
  by_cases h : k = i
  · subst h; simp
  · rw [if_neg h]
    by_cases h3 : i < k
    · rw [if_pos h3, if_pos (by omega)]
    · rw [if_neg h3, if_neg (by omega)]
/-- The true heights of the first k. -/
def hgtL (fs ts : List Int) (B : Int) (af : Nat) (w sq : Int) (k : Nat) : List Int := (List.range k).map (hK fs ts B af w sq)
@[simp] theorem hgtL_length (fs ts : List Int) (B : Int) (af : Nat) (w sq : Int) (k : Nat) : (hgtL fs ts B af w sq k).length = k := by simp [hgtL]
theorem hgtL_succ (fs ts : List Int) (B : Int) (af : Nat) (w sq : Int) (k : Nat) : hgtL fs ts B af w sq (k + 1) = hgtL fs ts B af w sq k ++ [hK fs ts B af w sq k] := by simp [hgtL, List.range_succ]

theorem SampPre.samp {fs ts vs : List Int} {B wd w sq : Int} {af : Nat} (h : SampPre fs ts vs B (af : Int) wd) (h0 : 0 ≤ w) (h1 : w ≤ wd) (s0 : 0 ≤ sq) (s1 : sq < fs.getD af 0 * fs.getD af 0) : Samp fs ts B af w wd sq :=
  ⟨h.n0, h.n1, h.nt, h.b0, h.b1, by have := h.a1; omega, h0, h1, h.w1, s0, s1, h.f0, h.up, h.t0⟩
theorem Samp.refl' {fs ts : List Int} {B : Int} {af : Nat} {w W sq : Int} (h : Samp fs ts B af w W sq) {k : Nat} (hk : k < fs.length) : reflR B (vallL fs ts af w sq) (fs.getD k 0) = (hK fs ts B af w sq k, (vpos fs af w k : Int), 0) := by
  have hp := vall_pass h hk
  unfold reflR hK
  rw [if_pos, if_neg (by omega), hp.1]
  rw [firstE_cons_zero, firstE_cons_zero, h.pro.err, freqE_zero]
  exact ⟨rfl, h.f0 k hk, rfl⟩
theorem Samp.virt' {fs ts : List Int} {B : Int} {af : Nat} {w W sq : Int} (h : Samp fs ts B af w W sq) {k : Nat} (hk : k < fs.length) : virtR B (vallL fs ts af w sq) (fs.getD k 0) = (vK fs ts B af w sq k, 0) := by
  have hp := vall_pass h hk
  unfold virtR vK
  rw [if_pos, if_neg (by omega)]
  rw [firstE_cons_zero, firstE_cons_zero, h.pro.err, freqE_zero]
  exact ⟨rfl, h.f0 k hk, rfl⟩
theorem Samp.vbd {fs ts : List Int} {B : Int} {af : Nat} {w W sq : Int} (h : Samp fs ts B af w W sq) {k : Nat} (hk : k < fs.length) : 0 ≤ (vK fs ts B af w sq k).1 ∧ (vK fs ts B af w sq k).1 ≤ (vK fs ts B af w sq k).2 ∧ (vK fs ts B af w sq k).2 ≤ 1000000000 := by
  have hf := h.f0 k hk
  have := virt_bd h.pro.slabs (f := fs.getD k 0) hf.1 hf.2
  unfold vK
  omega
theorem tsum_pix {fs ts vs : List Int} {B : Int} {af : Nat} {w sq : Int} {k : Nat} (hk : k < fs.length) {j : Nat} (hj : j ≤ fs.length) : tsum (pixL fs ts vs B af w sq fs.length) k ts j = tS fs ts (fs.getD k 0) j := by
  have hf : ∀ i, i < fs.length → pf (pixL fs ts vs B af w sq fs.length) i = fs.getD i 0 := fun i hi => by
    unfold pf
    rw [pixL_at hi, if_pos hi]
    rfl
  induction j with
  | zero => rfl
  | succ j ih =>
    have := ih (by omega)
    unfold tsum tS
    rw [this]
    unfold pI
    rw [hf j (by omega), hf k hk]
theorem pix_f {fs ts vs : List Int} {B : Int} {af : Nat} {w sq : Int} {k : Nat} (hk : k < fs.length) : pf (pixL fs ts vs B af w sq fs.length) k = fs.getD k 0 := by
  unfold pf
  rw [pixL_at hk, if_pos hk]
  rfl
theorem thick_tH (ts : List Int) (k : Nat) : thick ts k = tH ts k := by
  induction k with
  | zero => rfl
  | succ k ih => rw [thick, tH, ih]
/-- The pixels hold the virtual heights. -/
theorem held {fs ts vs : List Int} {B : Int} {af : Nat} {w W sq : Int} (h : Samp fs ts B af w W sq) (hv : ∀ k, k < fs.length → 0 ≤ vs.getD k 0) (hT : Tr (pixL fs ts vs B af w sq fs.length) (af : Int) W) : Held (pixL fs ts vs B af w sq fs.length) (af : Int) W B ts w sq := by
  have key : ∀ k, k < fs.length → vK fs ts B af w sq k = ((1000 * B + (tS fs ts (fs.getD k 0) k).1 + (vS (fs.getD k 0) af w sq k).1) / 1000, up (1000 * B + (tS fs ts (fs.getD k 0) k).2 + (vS (fs.getD k 0) af w sq k).2) 1000) := fun k hk => vall_virt h hk
  have hvs : ∀ k, k < fs.length → vsum (pixL fs ts vs B af w sq fs.length) k (af : Int) w sq = vS (fs.getD k 0) af w sq k := fun k hk => by
    unfold vsum vS
    rw [pix_f hk]
    by_cases hak : af < k
    · rw [if_pos (by omega), if_pos hak]
    · rw [if_neg (by omega), if_neg hak]
  refine ⟨hT, by simpa using h.nt, fun j hj => (h.t0 j (by simpa using hj)).1, h.w0, h.w1, h.s0, by rw [show ((af : Int)).toNat = af from rfl, pix_f h.a1]; exact h.s1, fun k hk => ?_, fun k hk => ?_⟩
  · have hk' : k < fs.length := by simpa using hk
    have hb := h.vbd hk'
    have hv0 := hv k hk'
    rw [tsum_pix hk' (by omega), hvs k hk']
    have e : plo (pixL fs ts vs B af w sq fs.length) k = max 0 ((vK fs ts B af w sq k).1 - vs.getD k 0) := by
      unfold plo
      rw [pixL_at hk', if_pos hk']
      rfl
    rw [e]
    rw [key k hk'] at hb ⊢
    dsimp only at hb ⊢
    generalize (tS fs ts (fs.getD k 0) k).1 = a at *
    generalize (vS (fs.getD k 0) af w sq k).1 = b at *
    omega
  · have hk' : k < fs.length := by simpa using hk
    have hb := h.vbd hk'
    have hv0 := hv k hk'
    rw [tsum_pix hk' (by omega), hvs k hk']
    have e : phi (pixL fs ts vs B af w sq fs.length) k = (vK fs ts B af w sq k).2 + vs.getD k 0 := by
      unfold phi
      rw [pixL_at hk', if_pos hk']
      rfl
    rw [e]
    rw [key k hk'] at hb ⊢
    unfold up at hb ⊢
    dsimp only at hb ⊢
    generalize (tS fs ts (fs.getD k 0) k).2 = a at *
    generalize (vS (fs.getD k 0) af w sq k).2 = b at *
    omega
/-- What the law asks of the lamination and of the heights. -/
theorem held_in {fs ts vs : List Int} {B : Int} {af : Nat} {w W sq : Int} (h : Samp fs ts B af w W sq) (hv : ∀ k, k < fs.length → 0 ≤ vs.getD k 0) (hT : Tr (pixL fs ts vs B af w sq fs.length) (af : Int) W) :
    (lam (pixL fs ts vs B af w sq fs.length) (af : Int) W (fs.length - 1)).2 = 0 ∧ In ts (lam (pixL fs ts vs B af w sq fs.length) (af : Int) W (fs.length - 1)).1 ∧
    (∀ k, k < fs.length → (htL (pixL fs ts vs B af w sq fs.length) (af : Int) W (lam (pixL fs ts vs B af w sq fs.length) (af : Int) W (fs.length - 1)).1 k).1 ≤ hK fs ts B af w sq k ∧ hK fs ts B af w sq k ≤ (htL (pixL fs ts vs B af w sq fs.length) (af : Int) W (lam (pixL fs ts vs B af w sq fs.length) (af : Int) W (fs.length - 1)).1 k).2) := by
  have hh := held h hv hT
  have n0 := h.n0
  have hl := lam_in hh (k := fs.length - 1) (by simp; omega)
  refine ⟨hl.1, hl.2, fun k hk => ?_⟩
  have := hts_in hh (k := k) (by simpa using hk)
  rw [pixL_length, thick_tH] at this
  unfold hK
  rw [vall_hgt h hk]
  by_cases hak : af < k
  · rw [if_pos hak]; rw [if_pos (by omega)] at this; exact this
  · rw [if_neg hak]; rw [if_neg (by omega)] at this; exact this

/-- A point with a wider pixel. -/
def widP (p : PT) : PT := (p.1, max 0 (p.2.1 - 3), min 20000 (p.2.2 + 3))
/-- The first k points widened. -/
def widL (l : List PT) (k : Nat) : List PT := (List.range l.length).map fun j => if j < k then widP (l.getD j P0) else l.getD j P0
@[simp] theorem widL_length (l : List PT) (k : Nat) : (widL l k).length = l.length := by simp [widL]
theorem widL_at {l : List PT} {k j : Nat} (hj : j < l.length) : (widL l k).getD j P0 = if j < k then widP (l.getD j P0) else l.getD j P0 := by
  rw [getD_at (by simpa using hj)]
  simp [widL]
theorem widL_zero (l : List PT) : widL l 0 = l := by
  refine List.ext_getElem (by simp) (fun i h1 h2 => ?_)
  simp only [widL, List.getElem_map, List.getElem_range]
  rw [if_neg (by omega), getD_at h2]
theorem widL_succ {l : List PT} {k : Nat} : widL l (k + 1) = (widL l k).set k (widP (l.getD k P0)) := by
  refine List.ext_getElem (by simp) (fun i h1 h2 => ?_)
  simp only [widL, List.getElem_set, List.getElem_map, List.getElem_range]
  by_cases h : k = i
  · subst h; simp
  · rw [if_neg h]
    by_cases h3 : i < k
    · rw [if_pos h3, if_pos (by omega)]
    · rw [if_neg h3, if_neg (by omega)]
theorem wider {l : List PT} {after W : Int} (hT : Tr l after W) : Wider l (widL l l.length) after W (min 500 (W + 5)) := by
  have hf : ∀ k, pf (widL l l.length) k = pf l k := fun k => by
    unfold pf
    by_cases hk : k < l.length
    · rw [widL_at hk, if_pos hk]; rfl
    · rw [List.getD, List.getD, List.getElem?_eq_none (by simp; omega), List.getElem?_eq_none (by omega)]
  have hlo : ∀ k, k < l.length → plo (widL l l.length) k = max 0 (plo l k - 3) := fun k hk => by
    unfold plo
    rw [widL_at hk, if_pos hk]; rfl
  have hhi : ∀ k, k < l.length → phi (widL l l.length) k = min 20000 (phi l k + 3) := fun k hk => by
    unfold phi
    rw [widL_at hk, if_pos hk]; rfl
  have n0 := hT.n0
  have n1 := hT.n1
  have w0 := hT.w0
  have w1 := hT.w1
  have a0 := hT.a0
  have a1 := hT.a1
  refine ⟨hT, ⟨by simpa using n0, by simpa using n1, by omega, by omega, a0, by simpa using a1, fun k hk => ?_, fun k hk => ?_⟩, by simp, by omega, hf, fun k hk => ?_, fun k hk => ?_⟩
  · have hk' : k < l.length := by simpa using hk
    have := hT.pt k hk'
    rw [hf, hlo k hk', hhi k hk']
    omega
  · rw [hf, hf]; exact hT.up k (by simpa using hk)
  · have := hT.pt k hk
    rw [hlo k hk]; omega
  · have := hT.pt k hk
    rw [hhi k hk]; omega
end Go.Proofs.Ytdeehodekilaiaa
