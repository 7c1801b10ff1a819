/- The examples of chapter 4 in plain numbers. No condition. -/
import Derived.Test.YtdeehodekilaiaaQB
set_option linter.unusedSimpArgs false
set_option linter.unusedVariables false
namespace Go.Proofs.Ytdeehodekilaiaa

theorem idx_example : idx 90000 500 = (1250, 1250) := idx_of (by decide) (by decide) ⟨by decide, by decide, by decide, by decide, by decide, by decide, by decide, fun _ => rfl⟩
def skyL : List G := [(90000, 20), (250000, 10)]
def trL : List PT := [(300, 99, 101), (500, 124, 126)]
theorem sky_pro : Pro 100 skyL := ⟨by decide, by decide, by decide, by decide, by decide⟩
theorem sky_pass : passN skyL 500 = 1 := passN_eq (by decide) (by decide) (by decide)
theorem sky_virt : virt 100 skyL 500 = (125, 125) := by
  unfold virt
  rw [sky_pass]
  simp only [dly, skyL, List.getD, List.getElem?_cons_zero, Option.getD_some, idx_example]
  decide
theorem sky_content : content skyL 2 = 4300000 := by decide
theorem tr_tr : Tr trL 0 0 := trE_zero (by decide)
theorem tr_idx : pI trL 0 1 = (1250, 1250) := idx_example
theorem tr_left : leftL trL 0 0 [] = (23000, 27000) := by
  unfold leftL
  simp only [List.length_nil, lefts, Nat.zero_add, show (0 : Int).toNat = 0 from rfl, tr_idx]
  decide
theorem tr_lam : lam trL 0 0 1 = ([(18, 22)], 0) := by
  simp only [lam, if_true, tr_left, slabOf, List.length_nil, Nat.zero_add, tr_idx, List.nil_append]
  decide
theorem tr_fitT : fitT trL [] = 20 := by
  simp only [fitT, List.length_nil, Nat.zero_add, dly, tr_idx]
  decide
theorem tr_fitE : fitE trL [] = 0 := by
  simp only [fitE, tr_fitT, List.length_nil, Nat.zero_add, dly, tr_idx]
  decide
theorem tr_fit : fit trL 1 = ([(90000, 20)], 0, 0) := by
  simp only [fit, if_true, tr_fitE, tr_fitT, List.nil_append]
  rfl
end Go.Proofs.Ytdeehodekilaiaa
