/- The law: nothing that matters more is dropped, whole. -/
import Derived.Test.YtohdjhdkmdhhcaaE83
set_option linter.unusedSimpArgs false
set_option linter.unusedVariables false
set_option linter.unusedSimpArgs false
set_option linter.unusedVariables false
namespace Go.Proofs.Ytohdjhdkmdhhcaa
open Go.RowKit
set_option maxRecDepth 100000

theorem keptLaw_c (A : Option Addr) (c : Nat) (q : List IT) (n : ByteArray) (p s t cp : Int) (w : World) (hr : Rd w A (its q)) (hc : q.length ≤ c) (hm : q.length ≤ maxLen) (hnm : n.size ≤ maxLen) :
    Calls Try.prog 5 #[.slice A q.length c, .agg #[.string n, .int .i64 p, .int .i64 s, .int .i64 t], .int .i64 cp] w fun r w' => r = .returned (.bool true) ∧ Below w.heap.size w w' := by
  by_cases hf : fewT q = true
  · by_cases hns : n.size ≤ 30
    · by_cases he : putE q (n, p, s, t) cp = 0
      · exact kept_go q n p s t cp A c w hr hc hf hns he
      · exact kept_bad q n p s t cp A c w hr hc hf hns he
    · have HFEW := hide (fun W (h : Rd W A (its q)) => fewItems_c q A c W h hm)
      rw [hf] at HFEW
      have hn30 : (30 : Int) < (n.size : Int) := by omega
      have hX := Blk.new w 37 [.string n, .int .i64 p, .int .i64 s, .int .i64 t]
      have hbel := alloc_bel w (.cells #[.string n, .int .i64 p, .int .i64 s, .int .i64 t] 37)
      have hrW := hr.bel hbel
      generalize hW : w.alloc (.cells #[.string n, .int .i64 p, .int .i64 s, .int .i64 t] 37) = W0 at hX hbel hrW
      have HW := hide hW
      clear hf hm hc hW hns hnm
      go_enter Try.func5, Try.ntmps5
      go_upto_region 1 with fail
      rw [HW.out]
      go_upto_region 3 with (first
        | (go_at_call 7; refine (awake_c _).mono ?_; rintro e_ w1 ⟨rfl, hb1⟩))
      have hX1 := hX.bel hb1
      have hz1 := hX1.lt
      have c0 := hX1.cell 0; have c1 := hX1.cell 1; have c2 := hX1.cell 2; have c3 := hX1.cell 3; simp only [List.getElem?_cons_zero, List.getElem?_cons_succ] at c0 c1 c2 c3
      go_wp2_with (first
        | (go_at_call 8; refine (HFEW.out _ (hrW.bel hb1)).mono ?_; rintro e_ w_ ⟨rfl, rfl⟩))
      go_ret
      exact ⟨rfl, bel_tr hbel hbel.size hb1⟩
  · have hf := eq_false_of_ne_true hf
    have HFEW := hide (fun W (h : Rd W A (its q)) => fewItems_c q A c W h hm)
    rw [hf] at HFEW
    have hbel := alloc_bel w (.cells #[.string n, .int .i64 p, .int .i64 s, .int .i64 t] 37)
    have hrW := hr.bel hbel
    generalize hW : w.alloc (.cells #[.string n, .int .i64 p, .int .i64 s, .int .i64 t] 37) = W0 at hbel hrW
    have HW := hide hW
    clear hf hm hc hW hnm
    go_enter Try.func5, Try.ntmps5
    go_upto_region 1 with fail
    rw [HW.out]
    go_wp2_with (first
      | (go_at_call 7; refine (awake_c _).mono ?_; rintro e_ w1 ⟨rfl, hb1⟩)
      | (go_at_call 8; refine (HFEW.out _ (hrW.bel hb1)).mono ?_; rintro e_ w_ ⟨rfl, rfl⟩))
    go_ret
    exact ⟨rfl, bel_tr hbel hbel.size hb1⟩
end Go.Proofs.Ytohdjhdkmdhhcaa
