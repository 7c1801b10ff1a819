/- Contracts: the reference's errors of a link, and when the items of a queue are sent. -/
import Derived.Test.YtohdjhdkmdhhcaaE74
import Derived.Test.YtohdjhdkmdhhcaaE15
set_option linter.unusedSimpArgs false
set_option linter.unusedVariables false
set_option linter.unusedSimpArgs false
set_option linter.unusedVariables false
namespace Go.Proofs.Ytohdjhdkmdhhcaa
open Go.RowKit
set_option maxRecDepth 100000

theorem refLinkErr_c (b u : Int) (w : World) :
    Calls Try.prog 24 #[.agg #[.int .i64 b, .int .i64 u]] w fun r w' => r = .returned (.int .i64 (linkE b u)) ∧ Below w.heap.size w w' := by
  have HWI := hide (fun x lo hi W => within_c x lo hi W)
  have HTI := hide (fun x W => isTick_c x W)
  cases h1 : outB b 0 1000000000000
  · cases h2 : outB u 1 10000
    · have HV : Hid (linkE b u = 0) := by show _ = _; unfold linkE tickE; rw [h1, h2]; rfl
      (
        go_enter Try.func24, Try.ntmps24
        go_wp2_with (first | (go_at_call 21; refine (HWI.out _ _ _ _).mono ?_; rintro e_ w_ ⟨rfl, rfl⟩; rw [h2]) | (go_at_call 49; refine (HTI.out _ _).mono ?_; rintro e_ w_ ⟨rfl, rfl⟩; rw [h1]))
        go_ret
        exact ⟨by rw [HV.out]; rfl, alloc_bel _ _⟩)
    · have HV : Hid (linkE b u = 2) := by show _ = _; unfold linkE tickE; rw [h1, h2]; rfl
      (
        go_enter Try.func24, Try.ntmps24
        go_wp2_with (first | (go_at_call 21; refine (HWI.out _ _ _ _).mono ?_; rintro e_ w_ ⟨rfl, rfl⟩; rw [h2]) | (go_at_call 49; refine (HTI.out _ _).mono ?_; rintro e_ w_ ⟨rfl, rfl⟩; rw [h1]))
        go_ret
        exact ⟨by rw [HV.out]; rfl, alloc_bel _ _⟩)
  · have HV : Hid (linkE b u = 2) := by show _ = _; unfold linkE tickE; rw [h1]; rfl
    have h2 : True := trivial
    (
      go_enter Try.func24, Try.ntmps24
      go_wp2_with (first | (go_at_call 21; refine (HWI.out _ _ _ _).mono ?_; rintro e_ w_ ⟨rfl, rfl⟩; rw [h2]) | (go_at_call 49; refine (HTI.out _ _).mono ?_; rintro e_ w_ ⟨rfl, rfl⟩; rw [h1]))
      go_ret
      exact ⟨by rw [HV.out]; rfl, alloc_bel _ _⟩)
theorem sentE_eq (q : List IT) (b u : Int) : sentE q b u = if (queE q).2 = 0 then linkE b u else (queE q).2 := rfl

set_option maxHeartbeats 4000000 in
theorem refSentBy_c (q : List IT) (A : Option Addr) (c : Nat) (b u : Int) (w : World) (hr : Rd w A (its q)) (hl : q.length ≤ 1000) (he : sentE q b u = 0) :
    Calls Try.prog 25 #[.slice A q.length c, .agg #[.int .i64 b, .int .i64 u]] w fun r w' => (∃ A' c', r = .returned (.slice A' q.length c') ∧ Rd w' A' (ints (endL q b u))) ∧ Below w.heap.size w w' := by
  obtain ⟨hq0, hb01, hu0, hu1⟩ := sentE_zero he
  have hS := szOk hq0
  have hl20 := hS.len
  have hM := run_zeros q (by omega) (endTo q b u 0) (endTo_zero q b u)
  have HOD := hide (fun W (h : Rd W A (its q)) => refOrderOf_own q A c W h (by omega))
  have HDV := hide (fun n W h0 h1 => ceil_c n u W h0 h1 hu0 (by omega))
  have hX := Blk.new w 51 [.int .i64 b, .int .i64 u]
  have hbel := alloc_bel w (.cells #[.int .i64 b, .int .i64 u] 51)
  have hrW := hr.bel hbel
  generalize hW : w.alloc (.cells #[.int .i64 b, .int .i64 u] 51) = w2 at hX hbel hrW
  have HW := hide hW
  clear hW he
  have hB2 := hbel
  have hr2 := hrW
  have hX2 := hX
  clear hbel hX hrW hr
  obtain ⟨g, hg⟩ : ∃ g, w2.heap.size = g := ⟨_, rfl⟩
  have hB3 : Below w.heap.size w (w2.alloc (.cells (ints (endTo q b u 0)).toArray 3)) := bel_alloc hB2 hB2.size _
  have hE3 : Blk (w2.alloc (.cells (ints (endTo q b u 0)).toArray 3)) g 3 (ints (endTo q b u 0)) := by rw [← hg]; exact Blk.new _ _ _
  have hr3 := hr2.alloc (.cells (ints (endTo q b u 0)).toArray 3)
  have hX3 := hX2.bel (alloc_bel w2 (.cells (ints (endTo q b u 0)).toArray 3))
  have hAg : its q ≠ [] → ∀ b o, A = some ⟨b, o, none⟩ → b ≠ g := fun hx => rd_apart hr2 hx (by omega)
  have hzg : w.heap.size < g := by have := hX2.lt; omega
  have hz3 : (w2.alloc (.cells (ints (endTo q b u 0)).toArray 3)).heap.size = g + 1 := by rw [← hg]; simp
  go_enter Try.func25, Try.ntmps25
  go_upto_region 1 with fail
  rw [HW.out]
  go_upto_region 2 with fail
  try rw [hg]
  generalize w2.alloc (.cells (ints (endTo q b u 0)).toArray 3) = w3 at hB3 hE3 hr3 hX3 hz3 ⊢
  clear hM
  go_wp2_with (first | (go_at_call 14; refine (HOD.out _ hr3).mono ?_; rintro e_ w4 ⟨⟨A4, c4, rfl, hx4, hc4, hf4⟩, hb4⟩))
  have hA4 : ∀ b o, A4 = some ⟨b, o, none⟩ → b ≠ g := fun b o e => by have := hf4 b o e; omega
  have hB4 := bel_tr hB3 hB3.size hb4
  have hE4 := hE3.bel hb4
  have hr4 := hr3.bel hb4
  have hX4 := hX3.bel hb4
  clear hf4 hb4 hB3 hE3 hr3 hX3 hr2 hX2 hB2 hz3 hg
  go_loopw [7, 8] (fun x y wr => ∃ k : Nat, k ≤ q.length ∧ y = .int .i64 k ∧ x = .int .i64 (sumTo q k) ∧ Below w.heap.size w wr ∧ Blk wr w.heap.size 51 [.int .i64 b, .int .i64 u] ∧ Blk wr g 3 (ints (endTo q b u k)) ∧ Rd wr A (its q) ∧ Rd wr A4 (ints (ordI q))) (fun _ y _ => q.length - (intOf y).toNat)
  case atStart => exact ⟨0, Nat.zero_le _, rfl, by rw [sumTo_zero], hB4, hX4, hE4, hr4, hx4⟩
  case round =>
    obtain ⟨k, hk, rfl, rfl, hB, hX, hE, hrr, hxx⟩ := hrel
    clear hB4 hX4 hE4 hr4 hx4
    by_cases hlt : k < q.length
    · have hk' : k < (ordL q).length := by rw [ordL_len]; exact hlt
      have hm : (ordL q)[k] < q.length := (ordL_mem q).1 (List.getElem_mem hk')
      obtain ⟨b4, o4, rfl, hb4, x0⟩ := hxx.int_at (k := k) (by rw [ordI_len]; exact hlt)
      have he := (ordI_at q (j := k) (by rw [ordI_len]; exact hlt)).2.1
      rw [he] at x0
      have hss := sumTo_succ q hk'
      rw [itS_at hm] at hss
      have hbd := sumTo_bd hS k (by omega)
      have hsz := hS.sz _ hm
      have hset := endTo_succ q b u hk'
      have hbd2 := sumTo_bd hS (k + 1) (by omega)
      obtain ⟨i, hi⟩ : ∃ i, (ordL q)[k] = i := ⟨_, rfl⟩
      simp only [hi] at hss hset hsz hm x0 he
      obtain ⟨ba, oa, rfl, hba, y0, y1, y2, y3⟩ := hrr.it_at hm
      have e1 := hE.cell i
      rw [ints_at (by rw [endTo_len]; exact hm)] at e1
      have e2 := hE.frozen i
      have HN := hide hss
      generalize q[i].2.2.1 = sz at y2 hsz hss HN
      rw [hss] at hset hbd2
      have hupd := upD_bd (n := sumTo q k + sz) (d := u) (by omega) hu0
      have HDV2 := hide (fun W => HDV.out (sumTo q k + sz) W (by omega) (by omega))
      have w1 : IntKind.i64.wrap (sumTo q k + sz) = sumTo q k + sz := by rw [IntKind.wrap_i64]; omega
      have w2' : IntKind.i64.wrap (b + upD (sumTo q k + sz) u) = b + upD (sumTo q k + sz) u := by rw [IntKind.wrap_i64]; omega
      have hEn : Blk (wr.setCell ⟨g, i, none⟩ (.int .i64 (b + upD (sumTo q k + sz) u))) g 3 (ints (endTo q b u (k + 1))) := by
        have := hE.set_ i (.int .i64 (b + upD (sumTo q k + sz) u))
        rw [← hset]
        simpa [ints, List.map_set] using this
      have hXn : Blk (wr.setCell ⟨g, i, none⟩ (.int .i64 (b + upD (sumTo q k + sz) u))) w.heap.size 51 [.int .i64 b, .int .i64 u] := hX.far (by show w.heap.size ≠ g; omega) _
      have hrn := rd_far hrr (p := ⟨g, i, none⟩) (hAg (by intro e; have := congrArg List.length e; rw [its_length, List.length_nil] at this; omega)) (.int .i64 (b + upD (sumTo q k + sz) u))
      have hxn := rd_far hxx (p := ⟨g, i, none⟩) hA4 (.int .i64 (b + upD (sumTo q k + sz) u))
      have hBn : Below w.heap.size w (wr.setCell ⟨g, i, none⟩ (.int .i64 (b + upD (sumTo q k + sz) u))) := hB.setCell (by show w.heap.size ≤ g; omega) _
      generalize (endTo q b u k)[i]'(by rw [endTo_len]; exact hm) = old at e1
      have jm : (i : Int) < (q.length : Int) := by omega
      have hzl := hX.lt
      have hzE := hE.lt
      have c0 := hX.cell 0; have c1 := hX.cell 1; simp only [List.getElem?_cons_zero, List.getElem?_cons_succ] at c0 c1
      clear hset hbd hbd2 hupd hsz hss hi he hE hX hrr hxx y0 y1 y3 hAg hA4 HOD
      go_wp2
      go_region_with ((first | (go_at_call 50; refine (HDV2.out _).mono ?_; rintro e_ w_ ⟨rfl, rfl⟩)))
      all_goals
        go_wp2
        go_roundw
        case rel => exact ⟨k + 1, by omega, by go_num, by rw [HN.out], hBn.drew, hXn, hEn, hrn, hxn⟩
        case measure => simp [intOf]; omega
    · obtain rfl : k = q.length := by omega
      go_wp2
      go_ret
      exact ⟨⟨_, _, rfl, hE.rd (List.prefix_refl _)⟩, hB⟩
end Go.Proofs.Ytohdjhdkmdhhcaa
