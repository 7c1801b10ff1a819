/- Mathematics: the secant law. Plain numbers; no condition. -/
import Derived.Test.YtkcjiejdjdcbeaaRy16
set_option linter.unusedSimpArgs false
set_option linter.unusedVariables false
set_option linter.unusedSimpArgs false
set_option linter.unusedVariables false
namespace Go.Proofs.Ytkcjiejdjdcbeaa
open Go.RowKit
set_option maxRecDepth 100000

theorem sq_pos {f : Int} (h : 1 ≤ f) : 1 ≤ f * f := by
  have := Int.mul_le_mul_of_nonneg_left h (show 0 ≤ f by omega)
  omega
theorem hit_iff {f n d : Int} {g : G} (h1 : 1 ≤ f) : hitB f n d g = true ↔ f * f * (d - n) ≤ g.2 * d := by
  unfold hitB
  rw [decide_eq_true_eq]
  have hF := sq_pos h1
  have c : (idxQ g.2 f).1 * (f * f) = (f * f - g.2) * (idxQ g.2 f).2 := redQ_cross (f * f - g.2) (f * f)
  have hb : 1 ≤ (idxQ g.2 f).2 := (redQ_den (f * f - g.2) (f * f) (by omega)).1
  generalize (idxQ g.2 f).1 = a at c ⊢
  generalize (idxQ g.2 f).2 = b at c hb ⊢
  generalize f * f = F at c hF ⊢
  generalize g.2 = s at c ⊢
  have e1 : a * d ≤ n * b ↔ a * d * F ≤ n * b * F := (Int.mul_le_mul_right (show 0 < F by omega)).symm
  have e2 : a * d * F = b * ((F - s) * d) := by
    rw [Int.mul_assoc, Int.mul_comm d F, ← Int.mul_assoc, c, Int.mul_comm (F - s) b, Int.mul_assoc]
  have e3 : n * b * F = b * (n * F) := by rw [Int.mul_comm n b, Int.mul_assoc]
  have e4 : b * ((F - s) * d) ≤ b * (n * F) ↔ (F - s) * d ≤ n * F := Int.mul_le_mul_left (show 0 < b by omega)
  rw [e1, e2, e3, e4, Int.sub_mul, Int.mul_sub, Int.mul_comm n F]
  omega
theorem grs_top : ∀ (l : List G) (m : Int), (∀ g ∈ l, g.2 ≤ l.foldl (fun m g => max m g.2) m) ∧ m ≤ l.foldl (fun m g => max m g.2) m ∧ (l.foldl (fun m g => max m g.2) m = m ∨ ∃ g ∈ l, g.2 = l.foldl (fun m g => max m g.2) m)
  | [], m => ⟨fun g hg => (by cases hg), Int.le_refl _, .inl rfl⟩
  | x :: l, m => by
    obtain ⟨h1, h2, h3⟩ := grs_top l (max m x.2)
    rw [List.foldl_cons]
    refine ⟨fun g hg => ?_, by omega, ?_⟩
    · rcases List.mem_cons.1 hg with rfl | hg
      · omega
      · exact h1 g hg
    · rcases h3 with h3 | ⟨g, hg, h3⟩
      · rcases Int.le_total x.2 m with h | h
        · exact .inl (by omega)
        · exact .inr ⟨x, List.mem_cons_self .., by omega⟩
      · exact .inr ⟨g, List.mem_cons_of_mem _ hg, h3⟩
theorem grs_hit {l : List G} (hok : OkS l) (l0 : 1 ≤ l.length) : ∃ g ∈ l, g.2 = grsQ l := by
  obtain ⟨h1, h2, h3⟩ := grs_top l 0
  rcases h3 with h3 | h3
  · cases l with
    | nil => simp at l0
    | cons x l =>
      have hx := hok x (List.mem_cons_self ..)
      have hx2 := h1 x (List.mem_cons_self ..)
      refine ⟨x, List.mem_cons_self .., ?_⟩
      unfold grsQ
      omega
  · exact h3
theorem pas_iff {f n d : Int} {l : List G} (hok : OkS l) (l0 : 1 ≤ l.length) (h1 : 1 ≤ f) (d0 : 1 ≤ d) : pasN f n d l < l.length ↔ f * f * (d - n) ≤ grsQ l * d := by
  unfold pasN
  rw [List.findIdx_lt_length]
  constructor
  · rintro ⟨g, hg, hh⟩
    have h2 := (hit_iff h1).1 hh
    have h3 := Int.mul_le_mul_of_nonneg_right ((grs_top l 0).1 g hg) (show (0 : Int) ≤ d by omega)
    exact Int.le_trans h2 h3
  · intro h
    obtain ⟨g, hg, he⟩ := grs_hit hok l0
    exact ⟨g, hg, (hit_iff h1).2 (by rw [he]; exact h)⟩
theorem root_iff {N f : Int} (hN : 0 ≤ N) (hf : 0 ≤ f) : f * f ≤ N ↔ f ≤ (rootN N.toNat : Int) := by
  obtain ⟨a, b⟩ := toNat_root hN
  generalize (rootN N.toNat : Nat) = r at a b ⊢
  constructor
  · intro h
    rcases Int.lt_or_le (r : Int) f with h2 | h2
    · have h3 := Int.mul_le_mul (show (r : Int) + 1 ≤ f by omega) (show (r : Int) + 1 ≤ f by omega) (by omega) hf
      omega
    · exact h2
  · intro h
    have h3 := Int.mul_le_mul h h hf (by omega)
    omega
theorem pas_root {f n d : Int} {l : List G} (hok : OkS l) (l0 : 1 ≤ l.length) (h1 : 1 ≤ f) (h2 : f ≤ 3000) (d0 : 1 ≤ d) (n1 : n < d) : pasN f n d l < l.length ↔ f ≤ min (rootN (grsQ l * d / (d - n)).toNat : Int) 3000 := by
  have hb := grsQ_ok hok
  have hX : 0 ≤ grsQ l * d := Int.mul_nonneg hb.1 (by omega)
  rw [pas_iff hok l0 h1 d0, ← Int.le_ediv_iff_mul_le (show 0 < d - n by omega), root_iff (Int.ediv_nonneg hX (by omega)) (by omega)]
  omega
theorem root_mono {a b : Int} (h : a ≤ b) (h0 : 0 ≤ a) : (rootN a.toNat : Int) ≤ rootN b.toNat := by
  have h1 := toNat_root h0
  exact (root_iff (by omega) (by omega)).1 (by omega)
theorem sec_mono {g n d n' d' : Int} (hg : 0 ≤ g) (d0 : 1 ≤ d) (n1 : n < d) (d0' : 1 ≤ d') (n1' : n' < d') (h : n * d' ≤ n' * d) : g * d / (d - n) ≤ g * d' / (d' - n') := by
  rw [Int.le_ediv_iff_mul_le (show 0 < d' - n' by omega)]
  have e1 : 0 < d - n := by omega
  have h2 : g * d / (d - n) * (d - n) ≤ g * d := (Int.le_ediv_iff_mul_le e1).1 (Int.le_refl _)
  refine (Int.mul_le_mul_right e1).1 ?_
  generalize g * d / (d - n) = q at h2 ⊢
  have h3 : q * (d - n) * (d' - n') ≤ g * d * (d' - n') := Int.mul_le_mul_of_nonneg_right h2 (by omega)
  have h4 : g * (d * (d' - n')) ≤ g * (d' * (d - n)) := by
    refine Int.mul_le_mul_of_nonneg_left ?_ hg
    rw [Int.mul_sub, Int.mul_sub, Int.mul_comm d' d, Int.mul_comm d n', Int.mul_comm d' n]
    omega
  have e2 : q * (d' - n') * (d - n) = q * (d - n) * (d' - n') := by rw [Int.mul_assoc, Int.mul_assoc, Int.mul_comm (d - n)]
  have e3 : g * d * (d' - n') = g * (d * (d' - n')) := Int.mul_assoc ..
  have e4 : g * d' * (d - n) = g * (d' * (d - n)) := Int.mul_assoc ..
  omega
theorem sec_one {l : List G} (hok : OkS l) : min (rootN (grsQ l * 1 / (1 - 0)).toNat : Int) 3000 = (rootN (grsQ l).toNat : Int) := by
  have hb := grsQ_ok hok
  rw [show grsQ l * 1 / (1 - 0) = grsQ l by omega]
  have h1 := toNat_root hb.1
  rcases Int.lt_or_le 3000 (rootN (grsQ l).toNat : Int) with h | h
  · have h3 := Int.mul_le_mul (show (3001 : Int) ≤ (rootN (grsQ l).toNat : Int) by omega) (show (3001 : Int) ≤ (rootN (grsQ l).toNat : Int) by omega) (by omega) (by omega)
    omega
  · omega
end Go.Proofs.Ytkcjiejdjdcbeaa
