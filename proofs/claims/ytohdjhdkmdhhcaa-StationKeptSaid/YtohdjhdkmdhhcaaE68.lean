/- Contracts: the reference's order of a queue. -/
import Derived.Test.YtohdjhdkmdhhcaaE67
set_option linter.unusedSimpArgs false
set_option linter.unusedVariables false
set_option linter.unusedSimpArgs false
set_option linter.unusedVariables false
namespace Go.Proofs.Ytohdjhdkmdhhcaa
open Go.RowKit
set_option maxRecDepth 100000

theorem itP_at {q : List IT} {i : Nat} (h : i < q.length) : itP q i = q[i].2.1 := by rw [itP, List.getD, List.getElem?_eq_getElem h]; rfl
theorem itS_at {q : List IT} {i : Nat} (h : i < q.length) : itS q i = q[i].2.2.1 := by rw [itS, List.getD, List.getElem?_eq_getElem h]; rfl
theorem itT_at {q : List IT} {i : Nat} (h : i < q.length) : itT q i = q[i].2.2.2 := by rw [itT, List.getD, List.getElem?_eq_getElem h]; rfl

set_option maxHeartbeats 4000000 in
theorem refBefore_c (q : List IT) (i k : Nat) (A : Option Addr) (c : Nat) (w : World) (hr : Rd w A (its q)) (hi : i < q.length) (hk : k < q.length) (hl : q.length ≤ 1000) :
    Calls Try.prog 39 #[.slice A q.length c, .int .i64 (i : Int), .int .i64 (k : Int)] w fun r w' => r = .returned (.bool (befI q i k)) ∧ Below w.heap.size w w' := by
  obtain ⟨b, off, rfl, hblt, x0, x1, x2, x3⟩ := hr.it_at hi
  obtain ⟨_, _, e', _, y0, y1, y2, y3⟩ := hr.it_at hk
  injection e' with e'
  injection e' with eb eo
  subst eb eo
  have p1 := itP_at hi
  have p2 := itP_at hk
  have t1 := itT_at hi
  have t2 := itT_at hk
  have HB : Hid (befI q i k = if q[i].2.1 = q[k].2.1 then (if q[i].2.2.2 = q[k].2.2.2 then decide (i < k) else decide (q[i].2.2.2 < q[k].2.2.2)) else decide (q[k].2.1 < q[i].2.1)) := by show _ = _; rw [← p1, ← p2, ← t1, ← t2]; rfl
  have j1 : (i : Int) < (q.length : Int) := by omega
  have j2 : (k : Int) < (q.length : Int) := by omega
  clear p1 p2 t1 t2 hr
  generalize q[i].2.1 = P1 at x1 HB
  generalize q[k].2.1 = P2 at y1 HB
  generalize q[i].2.2.2 = T1 at x3 HB
  generalize q[k].2.2.2 = T2 at y3 HB
  generalize q[i].1 = N1 at x0
  generalize q[k].1 = N2 at y0
  generalize q[i].2.2.1 = S1 at x2
  generalize q[k].2.2.1 = S2 at y2
  by_cases h1 : P1 = P2
  · have e1 : (P1 != P2) = false := by simpa using h1
    by_cases h2 : T1 = T2
    · have e2 : (T1 != T2) = false := by simpa using h2
      have HR : Hid (befI q i k = decide (i < k)) := by show _ = _; rw [HB.out, if_pos h1, if_pos h2]
      clear h1 h2 HB
      (
        go_enter Try.func39, Try.ntmps39
        go_wp2
        go_region
        all_goals (go_wp2; go_ret; exact ⟨by rw [HR.out]; rfl, by
          (repeat' (first | with_reducible exact Below.refl _ _ | with_reducible refine Below.drew ?_ | with_reducible refine bel_alloc ?_ ?_ _)); all_goals (first | omega | (simp <;> omega))⟩))
    · have e2 : (T1 != T2) = true := by simpa using h2
      have HR : Hid (befI q i k = decide (T1 < T2)) := by show _ = _; rw [HB.out, if_pos h1, if_neg h2]
      clear h1 h2 HB
      (
        go_enter Try.func39, Try.ntmps39
        go_wp2
        go_region
        all_goals (go_wp2; go_ret; exact ⟨by rw [HR.out]; rfl, by
          (repeat' (first | with_reducible exact Below.refl _ _ | with_reducible refine Below.drew ?_ | with_reducible refine bel_alloc ?_ ?_ _)); all_goals (first | omega | (simp <;> omega))⟩))
  · have e1 : (P1 != P2) = true := by simpa using h1
    have HR : Hid (befI q i k = decide (P2 < P1)) := by show _ = _; rw [HB.out, if_neg h1]
    clear h1 HB
    (
      go_enter Try.func39, Try.ntmps39
      go_wp2
      go_region
      all_goals (go_wp2; go_ret; exact ⟨by rw [HR.out]; rfl, by
        (repeat' (first | with_reducible exact Below.refl _ _ | with_reducible refine Below.drew ?_ | with_reducible refine bel_alloc ?_ ?_ _)); all_goals (first | omega | (simp <;> omega))⟩))

/-- The reference's order. -/
theorem refOrderOf_own (q : List IT) (A : Option Addr) (c : Nat) (w : World) (hr : Rd w A (its q)) (hl : q.length ≤ 1000) :
    Calls Try.prog 14 #[.slice A q.length c] w fun r w' => (∃ A' c', r = .returned (.slice A' q.length c') ∧ Rd w' A' (ints (ordI q)) ∧ q.length ≤ c' ∧ (∀ b o, A' = some ⟨b, o, none⟩ → w.heap.size ≤ b)) ∧ Below w.heap.size w w' := by
  have HBF := hide (fun i k W h (hi : i < q.length) (hk : k < q.length) => refBefore_c q i k A c W h hi hk hl)
  have hM : ∀ w, (Instr.makeSlice 29 (.int .i64 (q.length : Int)) (.int .i64 (q.length : Int))).run Try.prog w = .ok (.slice (some ⟨w.heap.size, 0, none⟩) q.length q.length) (w.alloc (.cells (ints (rowTo q 0)).toArray 3)) := by
    obtain ⟨i0, hi, iz0, iz1, iz2⟩ := info_parts Try.infoN
    intro w
    have := run_make_rowN (P := Try.prog) 29 3 i0 (.int .i64 0) Try.underlying29 hi iz0 .i64 .i64 q.length q.length (Nat.le_refl _) (by rw [iz2]; omega) (by omega) w
    rw [this]
    congr 2
    have e := madeCells_one (.int .i64 0) rfl q.length
    rw [iz1, rowTo_zero]
    congr 1
    apply Array.toList_inj.1
    rw [e]
    simp [ints]
  obtain ⟨g, hg⟩ : ∃ g, w.heap.size = g := ⟨_, rfl⟩
  go_enter Try.func14, Try.ntmps14
  go_wp2
  try rw [hg]
  have hB0 : Below g w (w.alloc (.cells (ints (rowTo q 0)).toArray 3)) := by rw [← hg]; exact alloc_bel _ _
  have hX0 : Blk (w.alloc (.cells (ints (rowTo q 0)).toArray 3)) g 3 (ints (rowTo q 0)) := by rw [← hg]; exact Blk.new _ _ _
  generalize w.alloc (.cells (ints (rowTo q 0)).toArray 3) = W at hB0 hX0 ⊢
  clear hM
  go_loopw [4] (fun i wr => ∃ k : Nat, k ≤ q.length ∧ i = .int .i64 k ∧ Below g w wr ∧ Blk wr g 3 (ints (rowTo q k))) (fun i _ => q.length - (intOf i).toNat)
  case atStart => exact ⟨0, Nat.zero_le _, rfl, hB0, hX0⟩
  case round =>
    obtain ⟨k, hk, rfl, hb, hX⟩ := hrel
    clear hB0 hX0
    by_cases hlt : k < q.length
    · obtain ⟨wo, rfl⟩ : ∃ wo : World, wo = wr := ⟨_, rfl⟩
      have hXo := hide hX
      clear hX
      have hro := hr.below hb (by omega)
      go_wp2
      go_loopw [5, 6] (fun x y wi => ∃ m : Nat, m ≤ q.length ∧ x = .int .i64 (rankTo q k m) ∧ y = .int .i64 m ∧ Below wo.heap.size wo wi) (fun _ y _ => q.length - (intOf y).toNat)
      case atStart => exact ⟨0, Nat.zero_le _, rfl, rfl, Below.refl _ _⟩
      case round =>
        obtain ⟨m, hm, rfl, rfl, hbi⟩ := hrel
        have hri := hro.bel hbi
        have hrk := rankTo_le q k m
        have hrs := rankTo_succ q k m
        by_cases hlm : m < q.length
        · cases hbf : befI q m k
          · rw [hbf] at hrs
            have HBF2 := hide (fun W h => HBF.out m k W h hlm hlt)
            rw [hbf] at HBF2
            have hrs' : rankTo q k (m + 1) = rankTo q k m := by simpa using hrs
            have HS := hide hrs'
            clear hrs hrs'
            go_wp2_with (first | (go_at_call 39; refine (HBF2.out _ hri).mono ?_; rintro e_ w2 ⟨rfl, hb2⟩))
            exact ⟨⟨m + 1, by omega, by rw [HS.out], by go_num, bel_tr hbi hbi.size hb2⟩, by simp [intOf]; omega⟩
          · rw [hbf] at hrs
            have HBF2 := hide (fun W h => HBF.out m k W h hlm hlt)
            rw [hbf] at HBF2
            have hrs' : rankTo q k (m + 1) = rankTo q k m + 1 := by simpa using hrs
            have HS := hide hrs'
            clear hrs hrs'
            go_wp2_with (first | (go_at_call 39; refine (HBF2.out _ hri).mono ?_; rintro e_ w2 ⟨rfl, hb2⟩))
            exact ⟨⟨m + 1, by omega, by rw [HS.out]; go_num, by go_num, bel_tr hbi hbi.size hb2⟩, by simp [intOf]; omega⟩
        · obtain rfl : m = q.length := by omega
          clear hrs
          obtain ⟨hp, hpe⟩ := rank_pos q hlt
          have hzz := rowTo_succ q hlt
          have hXi : Blk wr g 3 (ints (rowTo q k)) := hXo.out.bel hbi
          have hp' : rankTo q k q.length < q.length := by rw [ordL_len] at hp; exact hp
          obtain ⟨p, hpp⟩ : ∃ p, rankTo q k q.length = p := ⟨_, rfl⟩
          rw [hpp] at hzz hp'
          rw [hpp]
          have s1 := hXi.cell p
          rw [ints_at (by rw [rowTo_len]; exact hp')] at s1
          have s2 := hXi.frozen p
          have hXn : Blk (wr.setCell ⟨g, p, none⟩ (.int .i64 (k : Int))) g 3 (ints (rowTo q (k + 1))) := by
            have := hXi.set_ p (.int .i64 (k : Int))
            rw [← hzz]
            simpa [ints, List.map_set] using this
          have hbn : Below g w (wr.setCell ⟨g, p, none⟩ (.int .i64 (k : Int))) := (hb.trans (hbi.mono (by have := hb.size; omega))).setCell (Nat.le_refl _) _
          have ip : (p : Int) < (q.length : Int) := by omega
          clear hpp hp hpe hzz hrk hXi
          go_wp2
          go_roundw
          case rel => exact ⟨k + 1, by omega, by go_num, hbn, hXn⟩
          case measure => simp [intOf]; omega
    · obtain rfl : k = q.length := by omega
      rw [rowTo_end] at hX
      go_wp2
      go_ret
      exact ⟨⟨_, _, rfl, hX.rd (List.prefix_refl _), Nat.le_refl _, fun b o e => by injection e with e; injection e with e1 _; omega⟩, by rw [hg]; exact hb⟩
theorem refOrderOf_c (q : List IT) (A : Option Addr) (c : Nat) (w : World) (hr : Rd w A (its q)) (hl : q.length ≤ 1000) :
    Calls Try.prog 14 #[.slice A q.length c] w fun r w' => (∃ A' c', r = .returned (.slice A' q.length c') ∧ Rd w' A' (ints (ordI q)) ∧ q.length ≤ c') ∧ Below w.heap.size w w' :=
  (refOrderOf_own q A c w hr hl).mono fun r w' ⟨⟨A', c', h1, h2, h3, _⟩, h4⟩ => ⟨⟨A', c', h1, h2, h3⟩, h4⟩
end Go.Proofs.Ytohdjhdkmdhhcaa
