/- Contracts: when the items of a queue are sent. -/
import Derived.Test.YtohdjhdkmdhhcaaE73
import Derived.Test.YtohdjhdkmdhhcaaE71
set_option linter.unusedSimpArgs false
set_option linter.unusedVariables false
set_option linter.unusedSimpArgs false
set_option linter.unusedVariables false
namespace Go.Proofs.Ytohdjhdkmdhhcaa
open Go.RowKit
set_option maxRecDepth 100000

/-- The errors of a link, and of a queue that is sent. -/
def linkE (b u : Int) : Int := firstE [tickE b, errIf (outB u 1 10000) 2]
def sentE (q : List IT) (b u : Int) : Int := firstE [(queE q).2, tickE b, errIf (outB u 1 10000) 2]
theorem sentE_zero {q : List IT} {b u : Int} (h : sentE q b u = 0) : (queE q).2 = 0 ∧ (0 ≤ b ∧ b ≤ 1000000000000) ∧ 1 ≤ u ∧ u ≤ 10000 := by
  unfold sentE at h
  rw [firstE_cons_zero, firstE_cons_zero] at h
  obtain ⟨h1, h2, h3⟩ := h
  have h3' : errIf (outB u 1 10000) 2 = 0 := by
    by_cases e : errIf (outB u 1 10000) 2 = 0
    · exact e
    · simp only [firstE, if_neg e] at h3; exact h3
  exact ⟨h1, tickE_zero h2, outB_false.1 (errIf_zero (by decide) h3')⟩
theorem run_zeros (q : List IT) (h : q.length ≤ 1000) (xs : List Int) (hx : xs = List.replicate q.length 0) (w : World) : (Instr.makeSlice 29 (.int .i64 (q.length : Int)) (.int .i64 (q.length : Int))).run Try.prog w = .ok (.slice (some ⟨w.heap.size, 0, none⟩) q.length q.length) (w.alloc (.cells (ints xs).toArray 3)) := by
  obtain ⟨i0, hi, iz0, iz1, iz2⟩ := info_parts Try.infoN
  have := run_make_rowN (P := Try.prog) 29 3 i0 (.int .i64 0) Try.underlying29 hi iz0 .i64 .i64 q.length q.length (Nat.le_refl _) (by rw [iz2]; omega) (by omega) w
  rw [this]
  congr 2
  have e := madeCells_one (.int .i64 0) rfl q.length
  rw [iz1, hx]
  congr 1
  apply Array.toList_inj.1
  rw [e]
  simp [ints]

set_option maxHeartbeats 2000000 in
theorem sentBy_bad (q : List IT) (A : Option Addr) (c : Nat) (b u : Int) (w : World) (hr : Rd w A (its q)) (hl : q.length ≤ 1000) (hc : q.length ≤ c) (hn : ∀ k (h : k < q.length), q[k].1.size ≤ 1000) (he : sentE q b u ≠ 0) :
    Calls Try.prog 23 #[.slice A q.length c, .agg #[.int .i64 b, .int .i64 u]] w fun r w' => r = .returned (.tuple #[.slice none 0 0, .int .i64 (sentE q b u)]) ∧ Below w.heap.size w w' := by
  have hX := Blk.new w 51 [.int .i64 b, .int .i64 u]
  have hbel := alloc_bel w (.cells #[.int .i64 b, .int .i64 u] 51)
  have hrW := hr.bel hbel
  generalize hW : w.alloc (.cells #[.int .i64 b, .int .i64 u] 51) = W at hX hbel hrW
  have HW := hide hW
  clear hW
  have HQ := hide (fun W' (hb : Below W.heap.size W W') => queueError_c q A c W' (hrW.bel hb) (by omega) hc hn)
  have HE0 : Hid (firstE [(queE q).2, tickE b, errIf (outB u 1 10000) 2] = sentE q b u) := rfl
  generalize (queE q).2 = eq at HQ HE0
  have c0 := hX.cell 0; have c1 := hX.cell 1; simp only [List.getElem?_cons_zero, List.getElem?_cons_succ] at c0 c1
  have hzW := hX.lt
  go_enter Try.func23, Try.ntmps23
  go_upto_region 1 with fail
  rw [HW.out]
  go_region_held3 (fun w' => (∀ b o, b < W.heap.size → w'.cell? ⟨b, o, none⟩ = W.cell? ⟨b, o, none⟩) ∧ Below W.heap.size W w')
    ((refine kp ?_; (repeat' (first | with_reducible exact Below.refl _ _ | with_reducible exact HB1.out | with_reducible refine Below.drew ?_ | with_reducible refine bel_alloc ?_ ?_ _)); all_goals (first | omega | (simp <;> omega))))
    (first
      | (go_at_call 36; refine (HQ.out _ (by (repeat' (first | with_reducible exact Below.refl _ _ | with_reducible exact HB1.out | with_reducible refine Below.drew ?_ | with_reducible refine bel_alloc ?_ ?_ _)); all_goals (first | omega | (simp <;> omega)))).mono ?_; rintro e_ w5 ⟨rfl, hb5⟩; have HB1 : Hid (Below W.heap.size W w5) := (by refine hide (Below.trans ?_ (hb5.mono ?_)); (repeat' (first | with_reducible exact Below.refl _ _ | with_reducible exact HB1.out | with_reducible refine Below.drew ?_ | with_reducible refine bel_alloc ?_ ?_ _)); all_goals (first | omega | (simp <;> omega))); have s1 := HB1.out.size)
      | (go_at_call 47; refine (tickError_c _ _).mono ?_; rintro e_ w_ ⟨rfl, rfl⟩)
      | (go_at_call 41; refine (rangeError_c _ _ _ _).mono ?_; rintro e_ w_ ⟨rfl, rfl⟩)
      | (go_at_call 40; refine (firstError_3D _ _ _ _).mono ?_; rintro e_ w_ ⟨rfl, rfl⟩)
      | (go_at_call 40; refine (firstError_3 _ _ _ _).mono ?_; rintro e_ w_ ⟨rfl, rfl⟩))
  have hb2 : Below W.heap.size W (w5.alloc (.cells #[.int .i64 eq, .int .i64 (tickE b), .int .i64 (errIf (outB u 1 10000) 2)] 25)) := bel_alloc HB1.out (by omega) _
  generalize w5.alloc (.cells #[.int .i64 eq, .int .i64 (tickE b), .int .i64 (errIf (outB u 1 10000) 2)] 25) = w2 at hb2 ⊢
  rw [HE0.out]
  obtain ⟨E, hE⟩ : ∃ E, sentE q b u = E := ⟨_, rfl⟩
  rw [hE] at he ⊢
  have HR := hide hE
  clear hE HE0 HQ
  have e1 : (E != 0) = true := by simpa using he
  clear he
  go_wp2
  go_ret2
  exact ⟨by rw [HR.out]; rfl, bel_tr hbel (by omega) hb2⟩
theorem rd_far {w : World} {A : Option Addr} {xs : List Value} (h : Rd w A xs) {p : Addr} (hp : ∀ b o, A = some ⟨b, o, none⟩ → b ≠ p.block) (v : Value) : Rd (w.setCell p v) A xs := by
  intro hx
  obtain ⟨b, o, rfl, hlt, hc⟩ := h hx
  exact ⟨b, o, rfl, by simpa [World.setCell] using hlt, fun j u hu => (World.cell?_of_block (Below.heap_setCell w p v b (hp b o rfl))).trans (hc j u hu)⟩
theorem rd_apart {w : World} {A : Option Addr} {xs : List Value} {g : Nat} (h : Rd w A xs) (hx : xs ≠ []) (hg : w.heap.size ≤ g) : ∀ b o, A = some ⟨b, o, none⟩ → b ≠ g := fun b o e => by
  have := h.low hx b o e
  omega
set_option maxHeartbeats 4000000 in
theorem sentBy_ok (q : List IT) (A : Option Addr) (c : Nat) (b u : Int) (w : World) (hr : Rd w A (its q)) (hl : q.length ≤ 1000) (hc : q.length ≤ c) (hn : ∀ k (h : k < q.length), q[k].1.size ≤ 1000) (he : sentE q b u = 0) :
    Calls Try.prog 23 #[.slice A q.length c, .agg #[.int .i64 b, .int .i64 u]] w fun r w' => (∃ A' c', r = .returned (.tuple #[.slice A' q.length c', .int .i64 0]) ∧ Rd w' A' (ints (endL q b u))) ∧ Below w.heap.size w w' := by
  obtain ⟨hq0, hb01, hu0, hu1⟩ := sentE_zero he
  have hS := szOk hq0
  have hl20 := hS.len
  have hM := run_zeros q (by omega) (endTo q b u 0) (endTo_zero q b u)
  have HOD := hide (fun W (h : Rd W A (its q)) => orderOf_own q hl20 A c W h)
  have HDV := hide (fun n W h0 h1 => dividedUp_c n u W h0 h1 hu0 (by omega))
  have hX := Blk.new w 51 [.int .i64 b, .int .i64 u]
  have hbel := alloc_bel w (.cells #[.int .i64 b, .int .i64 u] 51)
  have hrW := hr.bel hbel
  generalize hW : w.alloc (.cells #[.int .i64 b, .int .i64 u] 51) = W at hX hbel hrW
  have HW := hide hW
  clear hW
  have HQ := hide (fun W' (hb : Below W.heap.size W W') => queueError_c q A c W' (hrW.bel hb) (by omega) hc hn)
  have HE0 : Hid (firstE [(queE q).2, tickE b, errIf (outB u 1 10000) 2] = sentE q b u) := rfl
  generalize (queE q).2 = eq at HQ HE0
  have c0 := hX.cell 0; have c1 := hX.cell 1; simp only [List.getElem?_cons_zero, List.getElem?_cons_succ] at c0 c1
  have hzW := hX.lt
  go_enter Try.func23, Try.ntmps23
  go_upto_region 1 with fail
  rw [HW.out]
  go_region_held3 (fun w' => (∀ b o, b < W.heap.size → w'.cell? ⟨b, o, none⟩ = W.cell? ⟨b, o, none⟩) ∧ Below W.heap.size W w')
    ((refine kp ?_; (repeat' (first | with_reducible exact Below.refl _ _ | with_reducible exact HB1.out | with_reducible refine Below.drew ?_ | with_reducible refine bel_alloc ?_ ?_ _)); all_goals (first | omega | (simp <;> omega))))
    (first
      | (go_at_call 36; refine (HQ.out _ (by (repeat' (first | with_reducible exact Below.refl _ _ | with_reducible exact HB1.out | with_reducible refine Below.drew ?_ | with_reducible refine bel_alloc ?_ ?_ _)); all_goals (first | omega | (simp <;> omega)))).mono ?_; rintro e_ w5 ⟨rfl, hb5⟩; have HB1 : Hid (Below W.heap.size W w5) := (by refine hide (Below.trans ?_ (hb5.mono ?_)); (repeat' (first | with_reducible exact Below.refl _ _ | with_reducible exact HB1.out | with_reducible refine Below.drew ?_ | with_reducible refine bel_alloc ?_ ?_ _)); all_goals (first | omega | (simp <;> omega))); have s1 := HB1.out.size)
      | (go_at_call 47; refine (tickError_c _ _).mono ?_; rintro e_ w_ ⟨rfl, rfl⟩)
      | (go_at_call 41; refine (rangeError_c _ _ _ _).mono ?_; rintro e_ w_ ⟨rfl, rfl⟩)
      | (go_at_call 40; refine (firstError_3D _ _ _ _).mono ?_; rintro e_ w_ ⟨rfl, rfl⟩)
      | (go_at_call 40; refine (firstError_3 _ _ _ _).mono ?_; rintro e_ w_ ⟨rfl, rfl⟩))
  have hb2 : Below W.heap.size W (w5.alloc (.cells #[.int .i64 eq, .int .i64 (tickE b), .int .i64 (errIf (outB u 1 10000) 2)] 25)) := bel_alloc HB1.out (by omega) _
  generalize w5.alloc (.cells #[.int .i64 eq, .int .i64 (tickE b), .int .i64 (errIf (outB u 1 10000) 2)] 25) = w2 at hb2 ⊢
  rw [HE0.out]
  obtain ⟨E, hE⟩ : ∃ E, sentE q b u = E := ⟨_, rfl⟩
  rw [hE] at he ⊢
  have HR := hide hE
  clear hE HE0 HQ
  subst he
  have hB2 := bel_tr hbel (by omega) hb2
  have hr2 := hrW.bel hb2
  have hX2 := hX.bel hb2
  clear c0 c1 HB1 hb5 s1 hb2 hX hrW hr
  obtain ⟨g, hg⟩ : ∃ g, w2.heap.size = g := ⟨_, rfl⟩
  have hB3 : Below w.heap.size w (w2.alloc (.cells (ints (endTo q b u 0)).toArray 3)) := bel_alloc hB2 hB2.size _
  have hE3 : Blk (w2.alloc (.cells (ints (endTo q b u 0)).toArray 3)) g 3 (ints (endTo q b u 0)) := by rw [← hg]; exact Blk.new _ _ _
  have hr3 := hr2.alloc (.cells (ints (endTo q b u 0)).toArray 3)
  have hX3 := hX2.bel (alloc_bel w2 (.cells (ints (endTo q b u 0)).toArray 3))
  have hAg : its q ≠ [] → ∀ b o, A = some ⟨b, o, none⟩ → b ≠ g := fun hx => rd_apart hr2 hx (by omega)
  have hzg : w.heap.size < g := by have := hX2.lt; omega
  have hs3 : g < (w2.alloc (.cells (ints (endTo q b u 0)).toArray 3)).heap.size := hE3.lt
  have hz3 : (w2.alloc (.cells (ints (endTo q b u 0)).toArray 3)).heap.size = g + 1 := by rw [← hg]; simp
  go_upto_region 6 with fail
  try rw [hg]
  generalize w2.alloc (.cells (ints (endTo q b u 0)).toArray 3) = w3 at hB3 hE3 hr3 hX3 hs3 hz3 ⊢
  clear hM
  go_wp2_with (first | (go_at_call 37; refine (HOD.out _ hr3).mono ?_; rintro e_ w4 ⟨⟨A4, c4, rfl, hx4, hc4, hf4⟩, hb4⟩))
  have hA4 : ∀ b o, A4 = some ⟨b, o, none⟩ → b ≠ g := fun b o e => by have := hf4 b o e; omega
  have hB4 := bel_tr hB3 hB3.size hb4
  have hE4 := hE3.bel hb4
  have hr4 := hr3.bel hb4
  have hX4 := hX3.bel hb4
  clear hf4 hb4 hB3 hE3 hr3 hX3 hr2 hX2 hB2 hs3 hz3 hg
  go_loopw [8, 30] (fun x y wr => ∃ k : Nat, k ≤ q.length ∧ y = .int .i64 k ∧ x = .int .i64 (sumTo q k) ∧ Below w.heap.size w wr ∧ Blk wr w.heap.size 51 [.int .i64 b, .int .i64 u] ∧ Blk wr g 3 (ints (endTo q b u k)) ∧ Rd wr A (its q) ∧ Rd wr A4 (ints (ordI q))) (fun _ y _ => q.length - (intOf y).toNat)
  case atStart => exact ⟨0, Nat.zero_le _, rfl, by rw [sumTo_zero], hB4, hX4, hE4, hr4, hx4⟩
  case round =>
    obtain ⟨k, hk, rfl, rfl, hB, hX, hE, hrr, hxx⟩ := hrel
    clear hB4 hX4 hE4 hr4 hx4
    by_cases hlt : k < q.length
    · have hk' : k < (ordL q).length := by rw [ordL_len]; exact hlt
      have hm : (ordL q)[k] < q.length := (ordL_mem q).1 (List.getElem_mem hk')
      obtain ⟨b4, o4, rfl, hb4, x0⟩ := hxx.int_at (k := k) (by rw [ordI_len]; exact hlt)
      have he := (ordI_at q (j := k) (by rw [ordI_len]; exact hlt)).2.1
      rw [he] at x0
      have hss := sumTo_succ q hk'
      rw [itS_at hm] at hss
      have hbd := sumTo_bd hS k (by omega)
      have hsz := hS.sz _ hm
      have hset := endTo_succ q b u hk'
      have hbd2 := sumTo_bd hS (k + 1) (by omega)
      obtain ⟨i, hi⟩ : ∃ i, (ordL q)[k] = i := ⟨_, rfl⟩
      simp only [hi] at hss hset hsz hm x0 he
      obtain ⟨ba, oa, rfl, hba, y0, y1, y2, y3⟩ := hrr.it_at hm
      have e1 := hE.cell i
      rw [ints_at (by rw [endTo_len]; exact hm)] at e1
      have e2 := hE.frozen i
      have HN := hide hss
      generalize q[i].2.2.1 = sz at y2 hsz hss HN
      rw [hss] at hset hbd2
      have hupd := upD_bd (n := sumTo q k + sz) (d := u) (by omega) hu0
      have HDV2 := hide (fun W => HDV.out (sumTo q k + sz) W (by omega) (by omega))
      have w1 : IntKind.i64.wrap (sumTo q k + sz) = sumTo q k + sz := by rw [IntKind.wrap_i64]; omega
      have w2' : IntKind.i64.wrap (b + upD (sumTo q k + sz) u) = b + upD (sumTo q k + sz) u := by rw [IntKind.wrap_i64]; omega
      have hEn : Blk (wr.setCell ⟨g, i, none⟩ (.int .i64 (b + upD (sumTo q k + sz) u))) g 3 (ints (endTo q b u (k + 1))) := by
        have := hE.set_ i (.int .i64 (b + upD (sumTo q k + sz) u))
        rw [← hset]
        simpa [ints, List.map_set] using this
      have hXn : Blk (wr.setCell ⟨g, i, none⟩ (.int .i64 (b + upD (sumTo q k + sz) u))) w.heap.size 51 [.int .i64 b, .int .i64 u] := hX.far (by show w.heap.size ≠ g; omega) _
      have hrn := rd_far hrr (p := ⟨g, i, none⟩) (hAg (by intro e; have := congrArg List.length e; rw [its_length, List.length_nil] at this; omega)) (.int .i64 (b + upD (sumTo q k + sz) u))
      have hxn := rd_far hxx (p := ⟨g, i, none⟩) hA4 (.int .i64 (b + upD (sumTo q k + sz) u))
      have hBn : Below w.heap.size w (wr.setCell ⟨g, i, none⟩ (.int .i64 (b + upD (sumTo q k + sz) u))) := hB.setCell (by show w.heap.size ≤ g; omega) _
      generalize (endTo q b u k)[i]'(by rw [endTo_len]; exact hm) = old at e1
      have jm : (i : Int) < (q.length : Int) := by omega
      have hzl := hX.lt
      have hzE := hE.lt
      have c0 := hX.cell 0; have c1 := hX.cell 1; simp only [List.getElem?_cons_zero, List.getElem?_cons_succ] at c0 c1
      clear hset hbd hbd2 hupd hsz hss hi he hE hX hrr hxx y0 y1 y3 hAg hA4 HOD
      go_wp2
      go_region_with ((first | (go_at_call 48; refine (HDV2.out _).mono ?_; rintro e_ w_ ⟨rfl, rfl⟩)))
      all_goals
        go_wp2
        go_roundw
        case rel => exact ⟨k + 1, by omega, by go_num, by rw [HN.out], hBn.drew, hXn, hEn, hrn, hxn⟩
        case measure => simp [intOf]; omega
    · obtain rfl : k = q.length := by omega
      go_wp2
      go_ret2
      exact ⟨⟨_, _, rfl, hE.rd (List.prefix_refl _)⟩, hB⟩
end Go.Proofs.Ytohdjhdkmdhhcaa
