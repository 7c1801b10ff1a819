/- Contracts: the slabs that a frequency passes, one by one. -/
import Derived.Test.YtgnhkjfdicdcmaaF3
namespace Go.Proofs.Ytgnhkjfdicdcmaa
open Go.RowKit
set_option maxRecDepth 100000

/-- The answer of IndexAt. -/
def idxR (sq f : Int) : G × Int := if firstE [squareE sq, freqE f] = 0 then (if sq < f * f then (idx sq f, 0) else ((0, 0), 12)) else ((0, 0), firstE [squareE sq, freqE f])
set_option maxHeartbeats 1000000 in
theorem indexAt_c (sq f : Int) (w : World) :
    Calls Try.prog 38 #[.int .i64 sq, .int .i64 f] w fun r w' =>
      r = .returned (.tuple #[.agg #[.int .i64 (idxR sq f).1.1, .int .i64 (idxR sq f).1.2], .int .i64 (idxR sq f).2]) ∧ Below w.heap.size w w' := by
  obtain ⟨W0, hW0⟩ : ∃ W0, w.alloc (.cells #[.int .i64 0, .int .i64 0] 54) = W0 := ⟨_, rfl⟩
  have hX0 : Blk W0 w.heap.size 54 [.int .i64 0, .int .i64 0] := by rw [← hW0]; exact Blk.new w _ [_, _]
  have hb0 : Below w.heap.size w W0 := by rw [← hW0]; exact alloc_bel w _
  obtain ⟨W1, hW1⟩ : ∃ W1, W0.alloc (.cells #[.int .i64 (squareE sq), .int .i64 (freqE f)] 27) = W1 := ⟨_, rfl⟩
  have hX : Blk W1 w.heap.size 54 [.int .i64 0, .int .i64 0] := by rw [← hW1]; exact hX0.bel (alloc_bel _ _)
  have hbw : Below w.heap.size w W1 := by rw [← hW1]; exact bel_alloc hb0 hb0.size _
  have HW := hide hW1
  have HW0 := hide hW0
  clear hW1 hW0 hX0 hb0
  have hlt := hX.lt
  have hf0 := hX.frozen 0
  have hf1 := hX.frozen 1
  have k0 := hX.cell 0
  have k1 := hX.cell 1
  simp only [List.getElem?_cons_zero, List.getElem?_cons_succ] at k0 k1
  by_cases he : firstE [squareE sq, freqE f] = 0
  · have hE := firstE_cons_zero.1 he
    have hF := firstE_cons_zero.1 hE.2
    have hs0 : 0 ≤ sq ∧ sq ≤ 9000000 := by have := hE.1; simpa [squareE, errIf_zero, outB_false] using this
    obtain ⟨f1, f2⟩ := freqE_zero.1 hF.1
    have e1 : (firstE [squareE sq, freqE f] != 0) = false := by simpa using he
    by_cases hs : sq < f * f
    · have HR : Hid (idxR sq f = (idx sq f, 0)) := by show _ = _; unfold idxR; rw [if_pos he, if_pos hs]
      have HI := hide (fun W => indexOf_c sq f W f1 f2 hs0.1 hs)
      have HP := hide (fun W => passes_c f sq W f1 f2)
      rw [decide_eq_true hs] at HP
      clear he hE hF hs
      generalize idx sq f = g at HI HR
      obtain ⟨lo, hi⟩ := g
      dsimp only at HI
      go_enter Try.func38, Try.ntmps38
      go_upto_region 1 with fail
      rw [HW0.out]
      go_upto_region 2 with (first
        | (go_at_call 75; refine (squareError_c _ _).mono ?_; rintro e_ w_ ⟨rfl, rfl⟩)
        | (go_at_call 83; refine (frequencyError_c _ _).mono ?_; rintro e_ w_ ⟨rfl, rfl⟩)
        | (go_at_call 70; refine (firstError_2 _ _ _).mono ?_; rintro e_ w_ ⟨rfl, rfl⟩))
      rw [HW.out]
      go_wp2_with (first
        | (go_at_call 84; refine (HP.out _).mono ?_; rintro e_ w_ ⟨rfl, rfl⟩)
        | (go_at_call 85; refine (HI.out _).mono ?_; rintro e w2 ⟨rfl, hb2⟩; have hX2 := hX.bel hb2; have hg0 := hX2.frozen 0; have hg1 := hX2.frozen 1; have l0 := hX2.cell 0; have l1 := hX2.cell 1; simp only [List.getElem?_cons_zero, List.getElem?_cons_succ] at l0 l1))
      obtain ⟨WE, hWE⟩ : ∃ WE, (w2.setCell ⟨w.heap.size, 0, none⟩ (.int .i64 lo)).setCell ⟨w.heap.size, 1, none⟩ (.int .i64 hi) = WE := ⟨_, rfl⟩
      rw [hWE]
      have hE : Blk WE w.heap.size 54 [.int .i64 lo, .int .i64 hi] := by rw [← hWE]; exact (hX2.set_ 0 _).set_ 1 _
      have hBE : Below w.heap.size w WE := by rw [← hWE]; exact ((bel_tr hbw hbw.size hb2).setCell (Nat.le_refl _) _).setCell (Nat.le_refl _) _
      clear hWE
      have g0 := hE.cell 0; have g1 := hE.cell 1; simp only [List.getElem?_cons_zero, List.getElem?_cons_succ] at g0 g1
      exact bodyPost_ret (v := .tuple #[.agg #[.int .i64 lo, .int .i64 hi], .int .i64 0]) (by simp [results, Try.results38, go_sem, g0, g1]; try rfl) rfl ⟨by rw [HR.out], hBE⟩
    · have HR : Hid (idxR sq f = ((0, 0), 12)) := by show _ = _; unfold idxR; rw [if_pos he, if_neg hs]
      have HP := hide (fun W => passes_c f sq W f1 f2)
      rw [decide_eq_false hs] at HP
      clear he hE hF hs
      go_enter Try.func38, Try.ntmps38
      go_upto_region 1 with fail
      rw [HW0.out]
      go_upto_region 2 with (first
        | (go_at_call 75; refine (squareError_c _ _).mono ?_; rintro e_ w_ ⟨rfl, rfl⟩)
        | (go_at_call 83; refine (frequencyError_c _ _).mono ?_; rintro e_ w_ ⟨rfl, rfl⟩)
        | (go_at_call 70; refine (firstError_2 _ _ _).mono ?_; rintro e_ w_ ⟨rfl, rfl⟩))
      rw [HW.out]
      go_wp2_with (first
        | (go_at_call 84; refine (HP.out _).mono ?_; rintro e_ w_ ⟨rfl, rfl⟩))
      obtain ⟨WE, hWE⟩ : ∃ WE, (W1.setCell ⟨w.heap.size, 0, none⟩ (.int .i64 0)).setCell ⟨w.heap.size, 1, none⟩ (.int .i64 0) = WE := ⟨_, rfl⟩
      rw [hWE]
      have hE : Blk WE w.heap.size 54 [.int .i64 0, .int .i64 0] := by rw [← hWE]; exact (hX.set_ 0 _).set_ 1 _
      have hBE : Below w.heap.size w WE := by rw [← hWE]; exact (hbw.setCell (Nat.le_refl _) _).setCell (Nat.le_refl _) _
      clear hWE
      have g0 := hE.cell 0; have g1 := hE.cell 1; simp only [List.getElem?_cons_zero, List.getElem?_cons_succ] at g0 g1
      exact bodyPost_ret (v := .tuple #[.agg #[.int .i64 0, .int .i64 0], .int .i64 12]) (by simp [results, Try.results38, go_sem, g0, g1]; try rfl) rfl ⟨by rw [HR.out], hBE⟩
  · have e1 : (firstE [squareE sq, freqE f] != 0) = true := by simpa using he
    have HR : Hid (idxR sq f = ((0, 0), firstE [squareE sq, freqE f])) := by show _ = _; unfold idxR; rw [if_neg he]
    clear he
    go_enter Try.func38, Try.ntmps38
    go_upto_region 1 with fail
    rw [HW0.out]
    go_upto_region 2 with (first
      | (go_at_call 75; refine (squareError_c _ _).mono ?_; rintro e_ w_ ⟨rfl, rfl⟩)
        | (go_at_call 83; refine (frequencyError_c _ _).mono ?_; rintro e_ w_ ⟨rfl, rfl⟩)
        | (go_at_call 70; refine (firstError_2 _ _ _).mono ?_; rintro e_ w_ ⟨rfl, rfl⟩))
    rw [HW.out]
    generalize firstE [squareE sq, freqE f] = E at e1 HR ⊢
    go_wp2
    obtain ⟨WE, hWE⟩ : ∃ WE, (W1.setCell ⟨w.heap.size, 0, none⟩ (.int .i64 0)).setCell ⟨w.heap.size, 1, none⟩ (.int .i64 0) = WE := ⟨_, rfl⟩
    rw [hWE]
    have hE : Blk WE w.heap.size 54 [.int .i64 0, .int .i64 0] := by rw [← hWE]; exact (hX.set_ 0 _).set_ 1 _
    have hBE : Below w.heap.size w WE := by rw [← hWE]; exact (hbw.setCell (Nat.le_refl _) _).setCell (Nat.le_refl _) _
    clear hWE
    have g0 := hE.cell 0; have g1 := hE.cell 1; simp only [List.getElem?_cons_zero, List.getElem?_cons_succ] at g0 g1
    exact bodyPost_ret (v := .tuple #[.agg #[.int .i64 0, .int .i64 0], .int .i64 E]) (by simp [results, Try.results38, go_sem, g0, g1]; try rfl) rfl ⟨by rw [HR.out], hBE⟩

theorem passed_c (base f : Int) (A : Option Addr) (n c : Nat) (w : World) :
    Calls Try.prog 88 #[.agg #[.int .i64 base, .slice A n c], .int .i64 f] w fun r w' =>
      r = .returned (.func (.func 107) #[] #[.pointer (some ⟨w.heap.size, 0, none⟩), .pointer (some ⟨w.heap.size + 1, 0, none⟩)]) ∧ (w.alloc (.cells #[.int .i64 base, .slice A n c] 24)).alloc (.cells #[.int .i64 f] 3) = w' := by
  go_enter Try.func88, Try.ntmps88
  go_wp2
  go_ret
  exact ⟨rfl, rfl⟩

/-- The arguments are slab number k. -/
def IsSlab (l : List G) (k : Nat) (args : Array Value) (_ : World) : Prop := args = #[.agg #[.int .i64 (l.getD k G0).1, .int .i64 (l.getD k G0).2]]

theorem range_split {k N : Nat} (h : k < N) : ∃ rest, List.range N = List.range k ++ k :: rest := by
  refine ⟨(List.range N).drop (k + 1), ?_⟩
  have h1 := List.take_append_drop k (List.range N)
  rw [List.take_range, Nat.min_eq_left (by omega), List.drop_eq_getElem_cons (by simpa using h), List.getElem_range] at h1
  exact h1.symm

theorem passN_ltD {l : List G} {f : Int} {k : Nat} (hk : k < passN l f) : (l.getD k G0).1 < f * f := by
  have h := passN_le l f
  rw [getD_at (show k < l.length by omega)]
  exact passN_lt hk _
theorem passN_atD {l : List G} {f : Int} (h : passN l f < l.length) : f * f ≤ (l.getD (passN l f) G0).1 := by rw [getD_at h]; exact passN_at h
theorem passed_iter (n B C : Nat) (hn : 1 ≤ n) (base f : Int) (A : Option Addr) (c : Nat) (l : List G) (hl : l.length ≤ 1000) (h1 : 1 ≤ f) (h2 : f ≤ 3000) (S : Nat → Prop) (hSB : S B) (hSC : S C) (hSA : gs l ≠ [] → ∀ b off, A = some ⟨b, off, none⟩ → S b)
    (w : World) (hB : Blk w B 24 [.int .i64 base, .slice A l.length c]) (hC : Blk w C 3 [.int .i64 f]) (hr : Rd w A (gs l)) :
    Iter Try.prog n 107 #[.pointer (some ⟨B, 0, none⟩), .pointer (some ⟨C, 0, none⟩)] (IsSlab l) (List.range (passN l f)) S w := by
  intro lp J W hk hJ hY h0
  have hBW : Blk W B 24 [.int .i64 base, .slice A l.length c] := (hk.block B hSB).trans hB
  have hCW : Blk W C 3 [.int .i64 f] := (hk.block C hSC).trans hC
  have hrW := hr.keepS hSA hk
  have HY := hide hY
  have hpl := passN_le l f
  have HLT := hide (fun k h => passN_ltD (l := l) (f := f) (k := k) h)
  have HAT := hide (fun h => passN_atD (l := l) (f := f) h)
  obtain ⟨m, hm⟩ : ∃ m, passN l f = m := ⟨_, rfl⟩
  rw [hm] at HY HLT HAT hpl ⊢
  clear hY hB hC hr hk hm
  refine callsIn_of_wp Try.func107 rfl trivial ?_ rfl
  simp only [Try.ntmps107, List.size_toArray, List.length_cons, List.length_nil, Nat.reduceAdd, Nat.reduceSub, Array.replicate_succ, Array.replicate_zero, List.push_toArray, List.append_toArray, List.nil_append, List.cons_append]
  have c0 := hBW.cell 0; have c1 := hBW.cell 1; simp only [List.getElem?_cons_zero, List.getElem?_cons_succ] at c0 c1
  gi_wp2
  gi_loopw [9] (fun i wr => ∃ k : Nat, k ≤ m ∧ i = .int .i64 k ∧ Blk wr B 24 [.int .i64 base, .slice A l.length c] ∧ Blk wr C 3 [.int .i64 f] ∧ Rd wr A (gs l) ∧ J (List.range k) wr) (fun i _ => m + 1 - (intOf i).toNat)
  case atStart => exact ⟨0, Nat.zero_le _, rfl, hBW, hCW, hrW, h0⟩
  case round =>
    clear c0 c1 hBW hCW hrW h0
    obtain ⟨k, hkm, rfl, hBr, hCr, hrr, hj⟩ := hrel
    have hzB := hBr.lt
    have hzC := hCr.lt
    have y0 := hCr.cell 0
    simp only [List.getElem?_cons_zero] at y0
    have hJr := hJ (List.range k) wr
    by_cases hlt : k < l.length
    · obtain ⟨b, off, rfl, hblt, hc0, hc1⟩ := hrr.g_at hlt
      by_cases hkp : k < m
      · have hp := HLT.out k hkp
        rw [getD_at hlt] at hp
        have HV : Hid (IsSlab l k #[.agg #[.int .i64 l[k].1, .int .i64 l[k].2]] wr) := by show IsSlab _ _ _ _; unfold IsSlab; rw [getD_at hlt]
        generalize l[k].1 = sq at hc0 hp HV
        generalize l[k].2 = t at hc1 HV
        have e1 : decide (sq < f * f) = true := by simpa using hp
        have HP := hide (fun W => passes_c f sq W h1 h2)
        rw [e1] at HP
        clear e1 hp
        gi_wp2_with (refine ⟨trivial, ?_⟩; gi_at_call 84; refine (CallsIn.mono (callsIn_wide.2 (HP.out _)) ?_); rintro e w1 ⟨rfl, rfl⟩)
        obtain ⟨rest, hrest⟩ := range_split hkp
        obtain ⟨fn, tmps, assign, body, hy, hR⟩ := HY.out (List.range k) k rest (wr.alloc (.cells #[.int .i64 sq, .int .i64 t] 69)) #[.agg #[.int .i64 sq, .int .i64 t]] hrest (hJr _ hj (alloc_bel _ _)) HV.out
        rw [hy, Oper.uponIn_round]
        refine ⟨fun h => (by cases h), ?_⟩
        refine hR.mono ?_
        rintro e W3 ⟨rfl, hJ3, hk3⟩
        have hB3 : Blk W3 B 24 _ := (hk3.block B hSB).trans (hBr.bel (alloc_bel _ _))
        have hC3 : Blk W3 C 3 _ := (hk3.block C hSC).trans (hCr.bel (alloc_bel _ _))
        have hr3 := (hrr.alloc _).keepS hSA hk3
        gi_wp2
        go_roundw
        case rel => exact ⟨k + 1, by omega, by go_num, hB3, hC3, hr3, by rw [List.range_succ]; exact hJ3⟩
        case measure => simp [intOf]; omega
      · obtain rfl : k = m := by omega
        have hp := HAT.out hlt
        rw [getD_at hlt] at hp
        generalize l[k].1 = sq at hc0 hp
        generalize l[k].2 = t at hc1
        have e1 : decide (sq < f * f) = false := by simpa using hp
        have HP := hide (fun W => passes_c f sq W h1 h2)
        rw [e1] at HP
        clear e1 hp
        gi_wp2_with (refine ⟨trivial, ?_⟩; gi_at_call 84; refine (CallsIn.mono (callsIn_wide.2 (HP.out _)) ?_); rintro e w1 ⟨rfl, rfl⟩)
        refine ⟨fun f h => (by cases h), ?_⟩
        gi_wp2
        exact bodyPost_ret (results_none rfl _ _ _) rfl ⟨⟨_, rfl⟩, hJr _ hj (alloc_bel _ _)⟩
    · obtain rfl : k = m := by omega
      gi_wp2
      go_end0
      exact ⟨⟨_, rfl⟩, hj⟩
end Go.Proofs.Ytgnhkjfdicdcmaa
