/- CodeWhateverLost: the statement, whole. For every input the law's call returns true, and its arguments read as they did; the listed table starts as the program's text lays it (the card's tie). No other condition. -/
import Derived.Test.YthkmeaibppkhmaaDoorMH
import Derived.Test.YthkmeaibppkhmaaDoorL13c
namespace Go.Proofs.YthkmeaibppkhmaaDoor.codeWhateverLostC
open Go.RowKit Go.ChangeShapes Go.WideShapes Go.ChangeAt
set_option maxRecDepth 100000

theorem contract (H : Type) (enc : TypeId × Value → H) (W : World) (base : Nat) (args : Array Value) (ds gs : List (DataW H)) (before : List MemPlace)
    (hval : ∀ (j : Nat) t v, Tryd.f13.params[j]? = some t → args[j]? = some v → Value.okWide Tryd.prog W .any base t v)
    (hW : DataW.Whole enc Tryd.prog Tryd.f13.params.toList Rows.codeWhateverLostSpec.vars false W args.toList ds gs before) (hL : laidMetH Tryd.prog Rows.codeWhateverLostRow.laid W) :
    Calls Tryd.prog 13 args W fun e W' => ∃ v, e = .returned v ∧ Rows.codeWhateverLostSpec.post enc Tryd.prog Tryd.f13 false true false false W args v W' := by
  have hW' := hW
  obtain ⟨p, q, hA0, hV, rfl, hfz, hnd⟩ := hW
  have hA : DataW.TrodAll enc Tryd.prog W 0 (fun _ => true) true Tryd.f13.params.toList args.toList ds p := hA0
  rw [Tryd.params13] at hA hval
  obtain ⟨v0, v1, v2, d0, d1, d2, p0, p1, p2, rfl, rfl, rfl, h0, h1, h2⟩ := trodAll_three hA
  obtain ⟨u0, u1, u2, u3, uy0, uy1, uy2, uy3, un, rfl, rfl, rfl, ut0, ut1, ut2, ut3⟩ := Joins.open_agg4 Tryd.underlying81 (by kernel_rfl) (by kernel_rfl) (hval 0 _ v0 rfl rfl) h0
  obtain ⟨ugain, eut0, _, _⟩ := DataW.trod_int Tryd.underlying3 ut0
  simp only [List.cons.injEq, and_true] at eut0
  subst eut0
  obtain ⟨ulimit, eut1, _, _⟩ := DataW.trod_int Tryd.underlying3 ut1
  simp only [List.cons.injEq, and_true] at eut1
  subst eut1
  obtain ⟨uA, us, ucA, rfl, urs, _⟩ := open_gs_rd ut2
  obtain ⟨uG, ug, uc, rfl, urg, _, _⟩ := open_ints_rd ut3
  obtain ⟨z0, z1, zy0, zy1, zn, rfl, rfl, rfl, zt0, zt1⟩ := Joins.open_agg2 Tryd.underlying119 (by kernel_rfl) (by kernel_rfl) (hval 1 _ v1 rfl rfl) h1
  obtain ⟨zA, zs, zcA, rfl, zrs, _⟩ := open_gs_rd zt0
  obtain ⟨zB, zw, zcB, rfl, zrw, _⟩ := open_gs_rd zt1
  obtain ⟨x0, x1, y0, y1, xn, rfl, rfl, rfl, ft0, ft1⟩ := Joins.open_agg2 Tryd.underlying105 (by kernel_rfl) (by kernel_rfl) (hval 2 _ v2 rfl rfl) h2
  obtain ⟨bu, eft0, _, _⟩ := DataW.trod_int Tryd.underlying3 ft0
  simp only [List.cons.injEq, and_true] at eft0
  subst eft0
  obtain ⟨th, eft1, _, _⟩ := DataW.trod_int Tryd.underlying3 ft1
  simp only [List.cons.injEq, and_true] at eft1
  subst eft1
  refine (lost_c ugain ulimit uA uG zA zB ucA uc zcA zcB us zs zw ug bu th W (tab_of_laid hL) urs urg zrs zrw).mono fun e W' ⟨he, hb⟩ => ⟨_, he, law_post hW' rfl (by kernel_rfl) rfl rfl hb⟩

def args0 : Array Value := #[.agg #[.int .i64 0, .int .i64 0, .slice none 0 0, .slice none 0 0], .agg #[.slice none 0 0, .slice none 0 0], .agg #[.int .i64 0, .int .i64 0]]
theorem laid_met (os : Os) : laidMet Tryd.prog Rows.codeWhateverLostRow.laid ((laidWorld os).forCall (fun _ _ => 0) ⟨#[], args0, []⟩).memory :=
  laidMet_of_run' 8 (by kernel_rfl) (by kernel_rfl)
theorem reads (os : Os) {H : Type} (enc : TypeId × Value → H) : ∃ places, DataW.whole enc Tryd.prog ((laidWorld os).forCall (fun _ _ => 0) ⟨#[], args0, []⟩).memory Tryd.f13.params.toList Rows.codeWhateverLostSpec.vars false args0.toList 8 = some ([.agg [.lit (.int .i64 0), .lit (.int .i64 0), .nil, .nil], .agg [.nil, .nil], .agg [.lit (.int .i64 0), .lit (.int .i64 0)]], [], places) :=
  ⟨[], by kernel_rfl⟩

theorem lifted (os : Os) (started : os.Started) (H : Type) (enc : TypeId × Value → H) (F : Stop.Interp) :
    ReturnsInHanded {} Tryd.checked os 13 .any ((OpenSpec.ofChange Rows.codeWhateverLostSpec).preRow enc Tryd.prog Tryd.f13 Rows.codeWhateverLostRow.domain false Rows.codeWhateverLostRow.laid) (((OpenSpec.ofChange Rows.codeWhateverLostSpec).at F).post enc Tryd.prog Tryd.f13 false true false false) := by
  obtain ⟨places, hx⟩ := reads os enc
  refine returnsInHanded_of_row (C := Tryd.checked) (s := OpenSpec.ofChange Rows.codeWhateverLostSpec) own started (by kernel_rfl) Tryd.func13
    (witness_row_at (enc := enc) (C := Tryd.checked) false (laidWorld os) args0 rfl (by kernel_rfl) (by kernel_rfl) (by kernel_rfl)
      (OpenSpec.preRow_of_cond 8 hx (by kernel_rfl) (fun k hk => by cases hk) (by kernel_rfl) (laid_met os))) ?_
  intro W base args ds gs before hval hW _ _ _ hL _ _
  exact contract H enc W base args ds gs before hval hW hL

theorem said : Rows.CodeWhateverLostSaid :=
  OpenClaim.holds_of_cond 13 Tryd.f13 rfl rfl rfl rfl rfl rfl rfl ⟨rfl, rfl, rfl, rfl, rfl⟩ rfl rfl rfl rfl rfl (by kernel_rfl) Tryd.func13 (by kernel_rfl)
    (of_decide_eq_true (by kernel_rfl)) (by unfold Func.isWrapper; first | (rw [if_pos (by decide +kernel)]; kernel_rfl) | (rw [if_neg (by decide +kernel)]; exact ⟨rfl, rfl⟩))
    (fun os started H enc _ F => by rw [OpenClaim.pre_eq_preRow]; exact lifted os started H enc F)

theorem plain (f : FuncId) (fn : Func) (hf : Tryd.pinned.checked.prog.funcNamed "skywave/skywavelaw01.CodeWhateverLost" = some f) (hfn : Tryd.pinned.checked.prog.funcs[f]? = some fn) :
    false = Tryd.pinned.checked.prog.looks [] ∧ ∀ (j : Nat) t, fn.params[j]? = some t → Tryd.pinned.checked.prog.wantsStandIn t = false := by
  obtain rfl : f = 13 := Option.some.inj ((show Tryd.prog.funcNamed "skywave/skywavelaw01.CodeWhateverLost" = some 13 by kernel_rfl).symm.trans hf) |>.symm
  obtain rfl : fn = Tryd.f13 := (Option.some.inj (Tryd.func13.symm.trans hfn)).symm
  refine ⟨by kernel_rfl, fun j t ht => ?_⟩
  have hall : (Tryd.f13.params.toList.all fun u => !Tryd.prog.wantsStandIn u) = true := by kernel_rfl
  exact (show Tryd.prog.wantsStandIn t = false by simpa using List.all_eq_true.1 hall t (by simpa using Array.mem_of_getElem? ht))

theorem card : Rows.CodeWhateverLostCardSaid :=
  Claim7.holds_tied_plain_at .later [] _ _ _ _ said (fun _ h => by cases h) (by kernel_rfl) (fun _ h => by cases h) codeWhateverLost_row_tie rfl ⟨rfl, rfl⟩ (by kernel_rfl) rfl plain (by kernel_rfl)
end Go.Proofs.YthkmeaibppkhmaaDoor.codeWhateverLostC
