/- Contracts: squares at heights, contents, of a profile and of the reference. -/
import Derived.Test.YtgnhkjfdicdcmaaG3
namespace Go.Proofs.Ytgnhkjfdicdcmaa
open Go.RowKit
set_option maxRecDepth 100000


set_option maxHeartbeats 1000000 in
theorem plasmaAt_c (base h : Int) (A : Option Addr) (c : Nat) (l : List G) (w : World) (hr : Rd w A (gs l)) (hS : Slabs base l) :
    Calls Try.prog 77 #[.agg #[.int .i64 base, .slice A l.length c], .int .i64 h] w fun r w' => r = .returned (.int .i64 (plasma base l h)) ∧ Below w.heap.size w w' := by
  have hn := hS.n1
  have hb0 := hS.b0
  have hb1 := hS.b1
  have HH := hide (fun k h => hgt_bd hS (k := k) h)
  have HG := hide (fun k h => hS.at (k := k) h)
  obtain ⟨W0, hW0⟩ : ∃ W0, w.alloc (.cells #[.int .i64 base, .slice A l.length c] 24) = W0 := ⟨_, rfl⟩
  have hX0 : Blk W0 w.heap.size 24 [.int .i64 base, .slice A l.length c] := by rw [← hW0]; exact Blk.new w _ [_, _]
  have hB0 : Below w.heap.size w W0 := by rw [← hW0]; exact alloc_bel w _
  have hr0 := hr.bel hB0
  have HW := hide hW0
  clear hW0 hr
  have c0 := hX0.cell 0; have c1 := hX0.cell 1; simp only [List.getElem?_cons_zero, List.getElem?_cons_succ] at c0 c1
  have z0 := hX0.lt
  by_cases hlow : h < base
  · have HR : Hid (plasma base l h = 0) := by show _ = _; unfold plasma; rw [if_pos hlow]
    have e1 : decide (h < base) = true := decide_eq_true hlow
    clear hlow
    go_enter Try.func77, Try.ntmps77
    go_upto_region 1 with fail
    rw [HW.out]
    go_wp2
    go_ret
    exact ⟨by rw [HR.out]; rfl, hB0⟩
  · have HR : Hid (plasma base l h = plG h (hgt base l 0) (l.drop 0)) := by show _ = _; unfold plasma; rw [if_neg hlow]; rfl
    have e1 : decide (h < base) = false := decide_eq_false hlow
    clear hlow
    go_enter Try.func77, Try.ntmps77
    go_upto_region 1 with fail
    rw [HW.out]
    go_wp2
    clear c0 c1
    go_loopw [5, 16] (fun x i wr => ∃ k : Nat, k ≤ l.length ∧ x = .int .i64 (hgt base l k) ∧ i = .int .i64 k ∧ Below W0.heap.size W0 wr ∧ Hid (plasma base l h = plG h (hgt base l k) (l.drop k))) (fun _ i _ => l.length - (intOf i).toNat)
    case atStart => exact ⟨0, Nat.zero_le _, rfl, rfl, Below.refl _ _, HR⟩
    case round =>
      obtain ⟨k, hk, rfl, rfl, hb, HP⟩ := hrel
      by_cases hlt : k < l.length
      · obtain ⟨b, off, rfl, hblt, hc0, hc1⟩ := (hr0.bel hb).g_at hlt
        have hst := plG_step (h := h) (base := base) hlt
        rw [← HP.out] at hst
        have HST := hide hst
        clear hst HP
        have h1 := HH.out k hk
        have h2 := HH.out (k + 1) hlt
        have hX : hgt base l (k + 1) = hgt base l k + (l.getD k G0).2 := rfl
        have hg := HG.out k hlt
        rw [getD_at hlt] at hX hg
        generalize l[k].1 = sq at hc0 hg HST
        generalize l[k].2 = t at hc1 hg hX
        obtain ⟨H', hH'⟩ : ∃ H', hgt base l (k + 1) = H' := ⟨_, rfl⟩
        have HK := hide hH'
        rw [hH'] at hX h2 HST
        clear hH'
        generalize hgt base l k = H at hX h1 ⊢
        subst hX
        by_cases hh : h < H + t
        · have e2 : decide (h < H + t) = true := decide_eq_true hh
          have HF : Hid (plasma base l h = sq) := by show _ = _; rw [HST.out, if_pos hh]
          clear HST hh
          go_wp2
          go_ret
          exact ⟨by rw [HF.out]; rfl, bel_tr hB0 (by omega) (bel_alloc hb hb.size _)⟩
        · have e2 : decide (h < H + t) = false := decide_eq_false hh
          have HF : Hid (plasma base l h = plG h (H + t) (l.drop (k + 1))) := by show _ = _; rw [HST.out, if_neg hh]
          clear HST hh
          go_wp2
          go_roundw
          case rel => exact ⟨k + 1, by omega, by rw [HK.out], by go_num, bel_alloc hb hb.size _, by rw [HK.out]; exact HF⟩
          case measure => simp [intOf]; omega
      · have HF : Hid (plasma base l h = 0) := by show _ = _; rw [HP.out, plG_end _ _ _ (by omega)]
        clear HP
        go_wp2
        go_ret
        exact ⟨by rw [HF.out]; rfl, bel_tr hB0 (by omega) hb⟩

set_option maxHeartbeats 1000000 in
theorem refContent_c (base : Int) (A : Option Addr) (c : Nat) (l : List G) (w : World) (hr : Rd w A (gs l)) (hS : Slabs base l) :
    Calls Try.prog 26 #[.agg #[.int .i64 base, .slice A l.length c]] w fun r w' => r = .returned (.int .i64 (content l l.length)) ∧ Below w.heap.size w w' := by
  have hn := hS.n1
  have HS := hide (fun k h => content_step hS (k := k) h)
  have HB := hide (fun k h => content_bd hS (k := k) h)
  obtain ⟨W0, hW0⟩ : ∃ W0, w.alloc (.cells #[.int .i64 base, .slice A l.length c] 24) = W0 := ⟨_, rfl⟩
  have hX0 : Blk W0 w.heap.size 24 [.int .i64 base, .slice A l.length c] := by rw [← hW0]; exact Blk.new w _ [_, _]
  have hB0 : Below w.heap.size w W0 := by rw [← hW0]; exact alloc_bel w _
  have hr0 := hr.bel hB0
  have HW := hide hW0
  clear hW0 hr
  have c0 := hX0.cell 0; have c1 := hX0.cell 1; simp only [List.getElem?_cons_zero, List.getElem?_cons_succ] at c0 c1
  have z0 := hX0.lt
  go_enter Try.func26, Try.ntmps26
  go_upto_region 1 with fail
  rw [HW.out]
  go_wp2
  go_loopw [3, 4] (fun s i wr => ∃ k : Nat, k ≤ l.length ∧ i = .int .i64 k ∧ s = .int .i64 (content l k) ∧ Below W0.heap.size W0 wr) (fun _ i _ => l.length - (intOf i).toNat)
  case atStart => exact ⟨0, Nat.zero_le _, rfl, rfl, Below.refl _ _⟩
  case round =>
    obtain ⟨k, hk, rfl, rfl, hb⟩ := hrel
    have hXr := hX0.bel hb
    have zr := hXr.lt
    clear c0 c1
    have c0 := hXr.cell 0; have c1 := hXr.cell 1; simp only [List.getElem?_cons_zero, List.getElem?_cons_succ] at c0 c1
    by_cases hlt : k < l.length
    · obtain ⟨b, off, rfl, hblt, hc0, hc1⟩ := (hr0.bel hb).g_at hlt
      have h1 := HS.out k hlt
      have h2 := HB.out k (by omega)
      have HC : Hid (content l (k + 1) = content l k + (l.getD k G0).1 * (l.getD k G0).2) := rfl
      rw [getD_at hlt] at h1 HC
      generalize content l k = C at h2 HC ⊢
      generalize l[k].1 = sq at hc0 h1 HC
      generalize l[k].2 = t at hc1 h1 HC
      have u1 : IntKind.i64.wrap (sq * t) = sq * t := by simp (disch := omega) only [IntWalk.i64_in]
      have u2 : IntKind.i64.wrap (C + sq * t) = C + sq * t := by simp (disch := omega) only [IntWalk.i64_in]
      clear h1 h2
      go_wp2
      go_quiet (fail)
      go_wp2
      go_roundw
      case rel => exact ⟨k + 1, by omega, by go_num, by rw [HC.out], below_drewN hb _⟩
      case measure => simp [intOf]; omega
    · obtain rfl : k = l.length := by omega
      go_wp2
      go_ret
      exact ⟨rfl, bel_tr hB0 (by omega) hb⟩
end Go.Proofs.Ytgnhkjfdicdcmaa
