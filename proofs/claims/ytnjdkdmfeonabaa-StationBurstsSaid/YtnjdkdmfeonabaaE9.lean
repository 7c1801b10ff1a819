/- Contracts: the check of a net. -/
import Derived.Test.YtnjdkdmfeonabaaE8
set_option linter.unusedSimpArgs false
set_option linter.unusedVariables false
set_option linter.unusedSimpArgs false
set_option linter.unusedVariables false
namespace Go.Proofs.Ytnjdkdmfeonabaa
open Go.RowKit
set_option maxRecDepth 100000

/-- The errors of a pair and of a net. -/
def pairE (n : Int) (pairs : List G) (i : Nat) (p : G) : Int := firstE [errIf (outB p.1 0 (n - 1) || outB p.2 0 (n - 1)) 6, errIf (decide (p.2 ≤ p.1)) 9, errIf (decide (p ∈ pairs.take i)) 23]
def netHead (n : Int) (m : Nat) : Int := firstE [errIf (outB n 1 8) 2, errIf (decide (28 < (m : Int))) 8]
def netE (n : Int) (pairs : List G) : Int × Int := if netHead n pairs.length = 0 then firstBadFrom (pairE n pairs) 0 pairs else (0, netHead n pairs.length)

theorem missing_c (a n : Int) (B : Nat) (w : World) (hc : w.cell? ⟨B, 0, none⟩ = some (.int .i64 n)) (h0 : 1 ≤ n) (h1 : n ≤ 8) :
    Calls Try.prog 48 (#[.int .i64 a] ++ #[.pointer (some ⟨B, 0, none⟩)]) w fun r w' => r = .returned (.bool (outB a 0 (n - 1))) ∧ w = w' := by
  rw [show (#[.int .i64 a] ++ #[.pointer (some ⟨B, 0, none⟩)] : Array Value) = #[.int .i64 a, .pointer (some ⟨B, 0, none⟩)] from rfl]
  go_enter Try.func48, Try.ntmps48
  go_wp2_with (first | (go_at_call 44; refine (outside_c _ _ _ _).mono ?_; rintro e_ w_ ⟨rfl, rfl⟩))
  go_ret
  exact ⟨rfl, rfl⟩

set_option maxHeartbeats 4000000 in
theorem checkNet1_on (k : Nat) (a b n : Int) (B : Nat) (A : Option Addr) (c : Nat) (l : List G) (w : World) (hX : Blk w B 45 [.int .i64 n, .slice A l.length c]) (hr : Rd w A (gs l)) (hk : k < l.length) (hl : l.length ≤ 1000) (hc : l.length ≤ c) (h0 : 1 ≤ n) (h1 : n ≤ 8) (ha : outB a 0 (n - 1) = false) :
    Calls Try.prog 47 (#[.int .i64 (k : Int), .agg #[.int .i64 a, .int .i64 b]] ++ #[.pointer (some ⟨B, 0, none⟩)]) w fun r w' => r = .returned (.int .i64 (pairE n l k (a, b))) ∧ Below w.heap.size w w' := by
  rw [show (#[.int .i64 (k : Int), .agg #[.int .i64 a, .int .i64 b]] ++ #[.pointer (some ⟨B, 0, none⟩)] : Array Value) = #[.int .i64 (k : Int), .agg #[.int .i64 a, .int .i64 b], .pointer (some ⟨B, 0, none⟩)] from rfl]
  obtain ⟨W, hW⟩ : ∃ W, w.alloc (.cells #[.int .i64 a, .int .i64 b] 63) = W := ⟨_, rfl⟩
  have hB0 : Below w.heap.size w W := by rw [← hW]; exact alloc_bel _ _
  have hY0 : Blk W w.heap.size 63 [.int .i64 a, .int .i64 b] := by rw [← hW]; exact Blk.new w _ [_, _]
  have hX0 := hX.bel hB0
  have hr0 := hr.bel hB0
  have HR : Hid (pairE n l k (a, b) = firstE [errIf (outB b 0 (n - 1)) 6, errIf (decide (b ≤ a)) 9, errIf (decide ((a, b) ∈ l.take k)) 23]) := by show _ = _; unfold pairE; rw [ha, Bool.false_or]
  have hrk : Rd W A (gs (l.take k)) := by
    intro hx
    obtain ⟨g, off, e, hg, hcell⟩ := hr0 (by intro e; have := congrArg List.length e; rw [gs_length, List.length_nil] at this; omega)
    refine ⟨g, off, e, hg, fun j u hu => hcell j u ?_⟩
    have e2 : gs l = gs (l.take k) ++ gs (l.drop k) := by rw [← gs_append, List.take_append_drop]
    rw [e2, List.getElem?_append_left (List.getElem?_eq_some_iff.1 hu).1]
    exact hu
  have HM := hide (fun W' (hb : Below W.heap.size W W') x => missing_c x n B W' ((hb.cell (p := ⟨B, 0, none⟩) hX0.lt).trans (hX0.cell 0)) h0 h1)
  have HC := hide (fun W' (hb : Below W.heap.size W W') => contains_c (l.take k) A c a b W' (hrk.bel hb) (by rw [List.length_take]; omega))
  rw [List.length_take_of_le (by omega)] at HC
  generalize decide ((a, b) ∈ l.take k) = dbl at HC HR
  have hblk := hX0.lt
  have hblk2 := hY0.lt
  obtain ⟨g, off, rfl, hg, _, _⟩ := hr0.g_at hk
  have HW := hide hW
  clear hW
  have c0 := hX0.cell 0; have c1 := hX0.cell 1; simp only [List.getElem?_cons_zero, List.getElem?_cons_succ] at c0 c1
  have d0 := hY0.cell 0; have d1 := hY0.cell 1; simp only [List.getElem?_cons_zero, List.getElem?_cons_succ] at d0 d1
  have i0 : (k : Int) ≤ (c : Int) := by omega
  clear hrk hr hr0 hX hX0 hY0
  go_enter Try.func47, Try.ntmps47
  go_upto_region 2 with fail
  rw [HW.out]
  go_region_held3 (fun w' => (∀ b o, b < W.heap.size → w'.cell? ⟨b, o, none⟩ = W.cell? ⟨b, o, none⟩) ∧ Below W.heap.size W w')
    ((refine kp ?_; (repeat' (first | with_reducible exact Below.refl _ _ | with_reducible exact HB1.out | with_reducible refine Below.drew ?_ | with_reducible refine bel_alloc ?_ ?_ _)); all_goals (first | omega | (simp <;> omega))))
    (first
      | (go_at_call 48; refine (HM.out _ (by (repeat' (first | with_reducible exact Below.refl _ _ | with_reducible exact HB1.out | with_reducible refine Below.drew ?_ | with_reducible refine bel_alloc ?_ ?_ _)); all_goals (first | omega | (simp <;> omega))) _).mono ?_; rintro e_ w_ ⟨rfl, rfl⟩)
      | (go_at_call 26; refine (errorIf_c _ _ _).mono ?_; rintro e_ w_ ⟨rfl, rfl⟩)
      | (go_at_call 49; refine (HC.out _ (by (repeat' (first | with_reducible exact Below.refl _ _ | with_reducible exact HB1.out | with_reducible refine Below.drew ?_ | with_reducible refine bel_alloc ?_ ?_ _)); all_goals (first | omega | (simp <;> omega)))).mono ?_; rintro e_ w5 ⟨rfl, hb5⟩; have HB1 : Hid (Below W.heap.size W w5) := (by refine hide (Below.trans ?_ (hb5.mono ?_)); (repeat' (first | with_reducible exact Below.refl _ _ | with_reducible exact HB1.out | with_reducible refine Below.drew ?_ | with_reducible refine bel_alloc ?_ ?_ _)); all_goals (first | omega | (simp <;> omega))); have s1 := HB1.out.size)
      | (go_at_call 27; refine (firstError_3D _ _ _ _).mono ?_; rintro e_ w_ ⟨rfl, rfl⟩)
      | (go_at_call 27; refine (firstError_3 _ _ _ _).mono ?_; rintro e_ w_ ⟨rfl, rfl⟩))
  go_wp2
  go_ret
  exact ⟨by rw [HR.out]; rfl, bel_tr hB0 hB0.size (bel_alloc HB1.out (by omega) _)⟩

theorem netHead_zero {n : Int} {m : Nat} (h : netHead n m = 0) : 1 ≤ n ∧ n ≤ 8 ∧ m ≤ 28 := by
  unfold netHead at h
  simp only [firstE] at h
  by_cases h1 : errIf (outB n 1 8) 2 = 0
  · rw [if_pos h1] at h
    by_cases h2 : errIf (decide (28 < (m : Int))) 8 = 0
    · have h3 := outB_false.1 (errIf_zero (by decide) h1)
      have h4 := errIf_zero (by decide) h2
      simp at h4
      omega
    · rw [if_neg h2] at h; exact absurd h h2
  · rw [if_neg h1] at h; exact absurd h h1
/-- The check of a net, if the check of a pair is known. -/
theorem checkNet_of (n : Int) (A : Option Addr) (c : Nat) (l : List G) (w : World) (hr : Rd w A (gs l)) (hl : l.length ≤ 1000)
    (hchk : netHead n l.length = 0 → ∀ (k : Nat) (h : k < l.length) (B : Nat) (W : World), Blk W B 45 [.int .i64 n, .slice A l.length c] → Rd W A (gs l) → Calls Try.prog 47 (#[.int .i64 (k : Int), .agg #[.int .i64 l[k].1, .int .i64 l[k].2]] ++ #[.pointer (some ⟨B, 0, none⟩)]) W fun r w' => r = .returned (.int .i64 (pairE n l k l[k])) ∧ Below W.heap.size W w') :
    Calls Try.prog 37 #[.agg #[.int .i64 n, .slice A l.length c]] w fun r w' => r = .returned (.tuple #[.int .i64 (netE n l).1, .int .i64 (netE n l).2]) ∧ Below w.heap.size w w' := by
  have hX := Blk.new w 45 [.int .i64 n, .slice A l.length c]
  have hbel := alloc_bel w (.cells #[.int .i64 n, .slice A l.length c] 45)
  have hrW := hr.alloc (.cells #[.int .i64 n, .slice A l.length c] 45)
  generalize hW : w.alloc (.cells #[.int .i64 n, .slice A l.length c] 45) = W at hX hbel hrW
  have HCK := hide hchk
  have HW := hide hW
  clear hW hchk
  have c0 := hX.cell 0; have c1 := hX.cell 1; simp only [List.getElem?_cons_zero, List.getElem?_cons_succ] at c0 c1
  have hzW := hX.lt
  go_enter Try.func37, Try.ntmps37
  go_wp2
  rw [HW.out]
  go_region_held3 (fun w' => (∀ b o, b < W.heap.size → w'.cell? ⟨b, o, none⟩ = W.cell? ⟨b, o, none⟩) ∧ Below W.heap.size W w')
    ((refine kp ?_; (repeat' (first | with_reducible exact Below.refl _ _ | with_reducible refine Below.drew ?_ | with_reducible refine bel_alloc ?_ ?_ _)); all_goals (first | omega | (simp <;> omega))))
    (first
      | (go_at_call 34; refine (rangeError_c _ _ _ _).mono ?_; rintro e_ w_ ⟨rfl, rfl⟩)
      | (go_at_call 26; refine (errorIf_c _ _ _).mono ?_; rintro e_ w_ ⟨rfl, rfl⟩)
      | (go_at_call 27; refine (firstError_2D _ _ _).mono ?_; rintro e_ w_ ⟨rfl, rfl⟩)
      | (go_at_call 27; refine (firstError_2 _ _ _).mono ?_; rintro e_ w_ ⟨rfl, rfl⟩))
  rw [show firstE [errIf (outB n 1 8) 2, errIf (decide (28 < (l.length : Int))) 8] = netHead n l.length from rfl]
  have hb1 : Below w.heap.size w (W.alloc (.cells #[.int .i64 (errIf (outB n 1 8) 2), .int .i64 (errIf (decide (28 < (l.length : Int))) 8)] 25)).drew := bel_tr hbel (by omega) (bel_alloc (Below.refl _ _) (Nat.le_refl _) _).drew
  have hb2 : Below W.heap.size W (W.alloc (.cells #[.int .i64 (errIf (outB n 1 8) 2), .int .i64 (errIf (decide (28 < (l.length : Int))) 8)] 25)).drew := (bel_alloc (Below.refl _ _) (Nat.le_refl _) _).drew
  generalize (W.alloc (.cells #[.int .i64 (errIf (outB n 1 8) 2), .int .i64 (errIf (decide (28 < (l.length : Int))) 8)] 25)).drew = W2 at hb1 hb2 ⊢
  have hr2 := hrW.bel hb2
  have hX2 := hX.bel hb2
  have d0 := hX2.cell 0; have d1 := hX2.cell 1; simp only [List.getElem?_cons_zero, List.getElem?_cons_succ] at d0 d1
  clear c0 c1 hrW HW hX
  by_cases h0 : netHead n l.length = 0
  · have e1 : (netHead n l.length != 0) = false := by simpa using h0
    have HR : Hid (netE n l = firstBadFrom (pairE n l) 0 l) := by show _ = _; unfold netE; rw [if_pos h0]
    have HCK2 := hide (HCK.out h0)
    clear h0
    go_wp2_with (first | (go_at_call 46; refine (firstBadP_c (pairE n l) _ l _ _ _ _ hr2 hl Try.call47 (fun k h W' hb => HCK2.out k h w.heap.size W' (hX2.bel hb) (hr2.bel hb))).mono ?_; rintro e w2 ⟨rfl, hb3⟩))
    go_ret2
    exact ⟨by rw [HR.out]; rfl, bel_tr hb1 hb1.size hb3⟩
  · have e1 : (netHead n l.length != 0) = true := by simpa using h0
    have HR : Hid (netE n l = (0, netHead n l.length)) := by show _ = _; unfold netE; rw [if_neg h0]
    clear h0
    go_wp2
    go_ret2
    exact ⟨by rw [HR.out]; rfl, hb1⟩
theorem checkNet_on (n : Int) (A : Option Addr) (c : Nat) (l : List G) (w : World) (hr : Rd w A (gs l)) (hl : l.length ≤ 1000) (hc : l.length ≤ c) (ho : ∀ k (h : k < l.length), outB l[k].1 0 (n - 1) = false) :
    Calls Try.prog 37 #[.agg #[.int .i64 n, .slice A l.length c]] w fun r w' => r = .returned (.tuple #[.int .i64 (netE n l).1, .int .i64 (netE n l).2]) ∧ Below w.heap.size w w' :=
  checkNet_of n A c l w hr hl fun hh k h B W hX hrW => by
    obtain ⟨h1, h2, _⟩ := netHead_zero hh
    exact checkNet1_on k _ _ n B A c l W hX hrW h hl hc h1 h2 (ho k h)
theorem netError_of (n : Int) (A : Option Addr) (c : Nat) (l : List G) (w : World) (e : Int × Int)
    (hc : ∀ W, Below w.heap.size w W → Calls Try.prog 37 #[.agg #[.int .i64 n, .slice A l.length c]] W fun r w' => r = .returned (.tuple #[.int .i64 e.1, .int .i64 e.2]) ∧ Below W.heap.size W w') :
    Calls Try.prog 24 #[.agg #[.int .i64 n, .slice A l.length c]] w fun r w' => r = .returned (.int .i64 e.2) ∧ Below w.heap.size w w' := by
  have HC := hide (hc _ (alloc_bel w (.cells #[.int .i64 n, .slice A l.length c] 45)))
  clear hc
  generalize e.1 = e1 at HC
  generalize e.2 = e2 at HC ⊢
  go_enter Try.func24, Try.ntmps24
  go_wp2_with (first | (go_at_call 37; refine HC.out.mono ?_; rintro e_ w1 ⟨rfl, hb1⟩))
  go_ret
  exact ⟨rfl, bel_tr (alloc_bel _ _) (by simp) hb1⟩
end Go.Proofs.Ytnjdkdmfeonabaa
