/- ProfileHeights: the statement, whole. For every input the law's call returns true, and its arguments read as they did. No other condition. -/
import Derived.Test.YtigcfileedihbaaFopen
import Derived.Test.YtigcfileedihbaaG5
import Derived.Test.YtigcfileedihbaaG6
namespace Go.Proofs.Ytigcfileedihbaa.profileHeightsC
open Go.RowKit Go.ChangeShapes Go.WideShapes Go.ChangeAt
set_option maxRecDepth 100000

theorem contract (H : Type) (enc : TypeId × Value → H) (W : World) (base : Nat) (args : Array Value) (ds gs : List (DataW H)) (before : List MemPlace)
    (hval : ∀ (j : Nat) t v, Try.f8.params[j]? = some t → args[j]? = some v → Value.okWide Try.prog W .any base t v)
    (hW : DataW.Whole enc Try.prog Try.f8.params.toList Rows.profileHeightsSpec.vars false W args.toList ds gs before) :
    Calls Try.prog 8 args W fun e W' => ∃ v, e = .returned v ∧ Rows.profileHeightsSpec.post enc Try.prog Try.f8 false true false false W args v W' := by
  have hW' := hW
  obtain ⟨p, q, hA0, hV, rfl, hfz, hnd⟩ := hW
  have hA : DataW.TrodAll enc Try.prog W 0 (fun _ => true) true Try.f8.params.toList args.toList ds p := hA0
  rw [Try.params8] at hA hval
  obtain ⟨v0, v1, d0, d1, p0, p1, rfl, rfl, rfl, h0, h1⟩ := trodAll_two hA
  obtain ⟨x0, x1, y0, y1, xn, rfl, rfl, rfl, xt0, xt1⟩ := Joins.open_agg2 Try.underlying24 (by kernel_rfl) (by kernel_rfl) (hval 0 _ v0 rfl rfl) h0
  obtain ⟨b, eb, _, _⟩ := DataW.trod_int Try.underlying3 xt0
  simp only [List.cons.injEq, and_true] at eb
  subst eb
  obtain ⟨A, l, c, rfl, hr, hmx⟩ := open_gs_rd xt1
  obtain ⟨f, rfl, rfl, _, _⟩ := open_int Try.underlying3 (hval 1 3 v1 rfl rfl) h1
  have hc : Calls Try.prog 8 #[.agg #[.int .i64 b, .slice A l.length c], .int .i64 f] W fun r w' => r = .returned (.bool true) ∧ Below W.heap.size W w' := by
    by_cases hh : l.length ≤ 14 ∧ (proE b l).2 = 0 ∧ freqE f = 0 ∧ passN l f ≠ l.length
    · exact heights_in b f A c l W hr hh.1 hh.2.1 hh.2.2.1 hh.2.2.2
    · exact heights_out b f A c l W hr hmx fun h14 h => hh ⟨h14, h⟩
  refine Calls.mono hc fun e W' ⟨he, hb⟩ => ⟨_, he, law_post hW' rfl (by kernel_rfl) rfl rfl hb⟩

def args0 : Array Value := #[.agg #[.int .i64 0, .slice none 0 0], .int .i64 0]
theorem laid_met (os : Os) : laidMet Try.prog Rows.profileHeightsRow.laid ((laidWorld os).forCall (fun _ _ => 0) ⟨#[], args0, []⟩).memory :=
  laidMet_of_run' 8 (by kernel_rfl) (by kernel_rfl)
theorem reads (os : Os) {H : Type} (enc : TypeId × Value → H) : ∃ places, DataW.whole enc Try.prog ((laidWorld os).forCall (fun _ _ => 0) ⟨#[], args0, []⟩).memory Try.f8.params.toList Rows.profileHeightsSpec.vars false args0.toList 8 = some ([.agg [.lit (.int .i64 0), .nil], .lit (.int .i64 0)], [], places) :=
  ⟨[], by kernel_rfl⟩

theorem lifted (os : Os) (started : os.Started) (H : Type) (enc : TypeId × Value → H) (F : Stop.Interp) :
    ReturnsInHanded {} Try.checked os 8 .any ((OpenSpec.ofChange Rows.profileHeightsSpec).preRow enc Try.prog Try.f8 Rows.profileHeightsRow.domain false Rows.profileHeightsRow.laid) (((OpenSpec.ofChange Rows.profileHeightsSpec).at F).post enc Try.prog Try.f8 false true false false) := by
  obtain ⟨places, hx⟩ := reads os enc
  refine returnsInHanded_of_row (C := Try.checked) (s := OpenSpec.ofChange Rows.profileHeightsSpec) own started (by kernel_rfl) Try.func8
    (witness_row_at (enc := enc) (C := Try.checked) false (laidWorld os) args0 rfl (by kernel_rfl) (by kernel_rfl) (by kernel_rfl)
      (OpenSpec.preRow_of_cond 8 hx (by kernel_rfl) (fun k hk => by cases hk) (by kernel_rfl) (laid_met os))) ?_
  intro W base args ds gs before hval hW _ _ _ _ _ _
  exact contract H enc W base args ds gs before hval hW

theorem said : Rows.ProfileHeightsSaid :=
  OpenClaim.holds_of_cond 8 Try.f8 rfl rfl rfl rfl rfl rfl rfl ⟨rfl, rfl, rfl, rfl, rfl⟩ rfl rfl rfl rfl rfl (by kernel_rfl) Try.func8 (by kernel_rfl)
    (of_decide_eq_true (by kernel_rfl)) (by unfold Func.isWrapper; first | (rw [if_pos (by decide +kernel)]; kernel_rfl) | (rw [if_neg (by decide +kernel)]; exact ⟨rfl, rfl⟩))
    (fun os started H enc _ F => by rw [OpenClaim.pre_eq_preRow]; exact lifted os started H enc F)
end Go.Proofs.Ytigcfileedihbaa.profileHeightsC
