/- The law of the true offset: what the ranges hold. -/
import Derived.Test.YtajkljfbllgbiaaE21
set_option linter.unusedSimpArgs false
set_option linter.unusedVariables false
namespace Go.Proofs.Ytajkljfbllgbiaa
open Go.RowKit
set_option maxRecDepth 100000

/-- The exchange of a clock that was asked at 1000 times a. -/
def exOf (off ch a bf bh : Int) : PT := (max 0 (1000 * a - bf), 1000 * a + off + ch * a, 1000 * a + bh)
theorem upD_ge {n d : Int} (hd : 0 < d) : n ≤ upD n d * d := (up_le hd).1 (Int.le_refl _)
theorem mul_abs {c d : Int} : c * d ≤ max c (-c) * max d (-d) := by
  have key : ∀ x y : Int, 0 ≤ y → x ≤ max c (-c) → x * y ≤ max c (-c) * y := fun x y hy hx => Int.mul_le_mul_of_nonneg_right hx hy
  rcases Int.le_total 0 d with h | h
  · rw [show max d (-d) = d by omega]
    exact key c d h (by omega)
  · rw [show max d (-d) = -d by omega]
    have := key (-c) (-d) (by omega) (by omega)
    rwa [Int.neg_mul_neg] at this
theorem true_in {off ch a bf bh D T : Int} (ha : 0 ≤ a ∧ a ≤ 1000) (hf : 0 ≤ bf ∧ bf ≤ 10000) (hh : 0 ≤ bh ∧ bh ≤ 10000) (hD : 0 ≤ D ∧ D ≤ 1000) (hc : -D ≤ ch ∧ ch ≤ D) (hT : 0 ≤ T ∧ T ≤ 1000000) (hs : slowN ch bf bh < 1000) :
    2 * (1000 * (offV (exOf off ch a bf bh) D T).1 - (1000 * off + ch * T)) < 1000 ∧ 2 * ((1000 * off + ch * T) - 1000 * (offV (exOf off ch a bf bh) D T).2) < 1000 := by
  unfold offV exOf
  dsimp only
  generalize hs' : max 0 (1000 * a - bf) = s
  generalize hfar : farE s (1000 * a + bh) T = far
  unfold farE at hfar
  have hfar0 : 0 ≤ far := by omega
  have hu := upD_ge (n := D * far) (show (0 : Int) < 1000 by omega)
  generalize upD (D * far) 1000 = u at hu
  have hM0 : 0 ≤ max ch (-ch) := by omega
  have hMD : max ch (-ch) ≤ D := by omega
  have hab := mul_abs (c := ch) (d := 1000 * a - T)
  have hab2 := mul_abs (c := -ch) (d := 1000 * a - T)
  rw [show max (-ch) (- -ch) = max ch (-ch) by omega] at hab2
  unfold slowN at hs
  generalize max ch (-ch) = M at *
  have e1 : ch * (1000 * a - T) = 1000 * (ch * a) - ch * T := by rw [Int.mul_sub, Int.mul_left_comm]
  have e2 : -ch * (1000 * a - T) = -(1000 * (ch * a) - ch * T) := by rw [Int.neg_mul, e1]
  rw [e1] at hab
  rw [e2] at hab2
  generalize ch * a = ca at *
  generalize ch * T = cT at *
  have h1 : M * far ≤ D * far := Int.mul_le_mul_of_nonneg_right hMD hfar0
  have hM1000 : M ≤ 1000 := by omega
  have hsb : 2 * M * (bf + bh) = 2 * (M * bf) + 2 * (M * bh) := by rw [Int.mul_add, Int.mul_assoc, Int.mul_assoc]
  rw [hsb] at hs
  have p1 : 0 ≤ M * bf := Int.mul_nonneg hM0 hf.1
  have p2 : 0 ≤ M * bh := Int.mul_nonneg hM0 hh.1
  have p3 : M * bh ≤ 1000 * bh := Int.mul_le_mul_of_nonneg_right hM1000 hh.1
  generalize hd : max (1000 * a - T) (-(1000 * a - T)) = d at *
  have hsat : s ≤ 1000 * a := by omega
  have p4 : M * (1000 * a - s) ≤ 1000 * (1000 * a - s) := Int.mul_le_mul_of_nonneg_right hM1000 (by omega)
  rcases Int.le_total T (1000 * a) with h | h
  · have hd1 : d ≤ bf + far := by omega
    have hd2 : d ≤ (1000 * a - s) + far := by omega
    have q1 := Int.mul_le_mul_of_nonneg_left hd1 hM0
    have q2 := Int.mul_le_mul_of_nonneg_left hd2 hM0
    rw [Int.mul_add] at q1 q2
    omega
  · have hd1 : d ≤ bh + far := by omega
    have q1 := Int.mul_le_mul_of_nonneg_left hd1 hM0
    rw [Int.mul_add] at q1
    omega
theorem off_size {off ch a bf bh D T : Int} (ho : 0 ≤ off ∧ off ≤ 1000000000) (ha : 0 ≤ a ∧ a ≤ 1000) (hf : 0 ≤ bf ∧ bf ≤ 10000) (hh : 0 ≤ bh ∧ bh ≤ 10000) (hD : 0 ≤ D ∧ D ≤ 1000) (hc : -D ≤ ch ∧ ch ≤ D) (hT : 0 ≤ T ∧ T ≤ 1000000) :
    -1000000000000 ≤ (offV (exOf off ch a bf bh) D T).1 ∧ (offV (exOf off ch a bf bh) D T).1 ≤ 1000000000000 ∧ -1000000000000 ≤ (offV (exOf off ch a bf bh) D T).2 ∧ (offV (exOf off ch a bf bh) D T).2 ≤ 1000000000000 := by
  unfold offV exOf
  dsimp only
  generalize hs' : max 0 (1000 * a - bf) = s
  generalize hfar : farE s (1000 * a + bh) T = far
  unfold farE at hfar
  have hfar0 : 0 ≤ far ∧ far ≤ 2000000 := by omega
  have hm := mul_bd hD.1 hD.2 hfar0.1 hfar0.2
  have hu := upD_bd hm.1 (show (1 : Int) ≤ 1000 by omega)
  generalize D * far = df at *
  generalize upD df 1000 = u at *
  have hca : -1000000 ≤ ch * a ∧ ch * a ≤ 1000000 := by
    have h1 := mul_abs (c := ch) (d := a)
    have h2 := mul_abs (c := -ch) (d := a)
    rw [show max (-ch) (- -ch) = max ch (-ch) by omega, Int.neg_mul] at h2
    have h3 := mul_bd (a := max ch (-ch)) (b := max a (-a)) (A := 1000) (B := 1000) (by omega) (by omega) (by omega) (by omega)
    omega
  omega
theorem true_common {L : List G} {Q : Int} (hL : L ≠ []) (h : ∀ g ∈ L, 2 * (1000 * g.1 - Q) < 1000 ∧ 2 * (Q - 1000 * g.2) < 1000) : (comA L).1 ≤ (comA L).2 ∧ (comA L).1 ≤ upD Q 1000 ∧ Q / 1000 ≤ (comA L).2 := by
  obtain ⟨_, g, hg, e1⟩ := comA_lo hL
  obtain ⟨_, k, hk, e2⟩ := comA_hi hL
  have h1 := (h g hg).1
  have h2 := (h k hk).2
  have h3 := upD_ge (n := Q) (show (0 : Int) < 1000 by omega)
  omega
end Go.Proofs.Ytajkljfbllgbiaa
