/- Contracts: the slabs that a frequency passes, one by one. -/
import Derived.Test.YtdeehodekilaiaaF3
set_option linter.unusedSimpArgs false
set_option linter.unusedVariables false
namespace Go.Proofs.Ytdeehodekilaiaa
open Go.RowKit
set_option maxRecDepth 100000

/-- The answer of IndexAt. -/
def idxR (sq f : Int) : G × Int := if firstE [squareE sq, freqE f] = 0 then (if sq < f * f then (idx sq f, 0) else ((0, 0), 12)) else ((0, 0), firstE [squareE sq, freqE f])
theorem passed_c (base f : Int) (A : Option Addr) (n c : Nat) (w : World) :
    Calls Try.prog 43 #[.agg #[.int .i64 base, .slice A n c], .int .i64 f] w fun r w' =>
      r = .returned (.func (.func 59) #[] #[.pointer (some ⟨w.heap.size, 0, none⟩), .pointer (some ⟨w.heap.size + 1, 0, none⟩)]) ∧ (w.alloc (.cells #[.int .i64 base, .slice A n c] 24)).alloc (.cells #[.int .i64 f] 3) = w' := by
  go_enter Try.func43, Try.ntmps43
  go_wp2
  go_ret
  exact ⟨rfl, rfl⟩

/-- The arguments are slab number k. -/
def IsSlab (l : List G) (k : Nat) (args : Array Value) (_ : World) : Prop := args = #[.agg #[.int .i64 (l.getD k G0).1, .int .i64 (l.getD k G0).2]]

theorem range_split {k N : Nat} (h : k < N) : ∃ rest, List.range N = List.range k ++ k :: rest := by
  refine ⟨(List.range N).drop (k + 1), ?_⟩
  have h1 := List.take_append_drop k (List.range N)
  rw [List.take_range, Nat.min_eq_left (by omega), List.drop_eq_getElem_cons (by simpa using h), List.getElem_range] at h1
  exact h1.symm

theorem passN_ltD {l : List G} {f : Int} {k : Nat} (hk : k < passN l f) : (l.getD k G0).1 < f * f := by
  have h := passN_le l f
  rw [getD_at (show k < l.length by omega)]
  exact passN_lt hk _
theorem passN_atD {l : List G} {f : Int} (h : passN l f < l.length) : f * f ≤ (l.getD (passN l f) G0).1 := by rw [getD_at h]; exact passN_at h
theorem passed_iter (n B C : Nat) (hn : 1 ≤ n) (base f : Int) (A : Option Addr) (c : Nat) (l : List G) (hl : l.length ≤ 1000) (h1 : 1 ≤ f) (h2 : f ≤ 3000) (S : Nat → Prop) (hSB : S B) (hSC : S C) (hSA : gs l ≠ [] → ∀ b off, A = some ⟨b, off, none⟩ → S b)
    (w : World) (hB : Blk w B 24 [.int .i64 base, .slice A l.length c]) (hC : Blk w C 3 [.int .i64 f]) (hr : Rd w A (gs l)) :
    Iter Try.prog n 59 #[.pointer (some ⟨B, 0, none⟩), .pointer (some ⟨C, 0, none⟩)] (IsSlab l) (List.range (passN l f)) S w := by
  intro lp J W hk hJ hY h0
  have hBW : Blk W B 24 [.int .i64 base, .slice A l.length c] := (hk.block B hSB).trans hB
  have hCW : Blk W C 3 [.int .i64 f] := (hk.block C hSC).trans hC
  have hrW := hr.keepS hSA hk
  have HY := hide hY
  have hpl := passN_le l f
  have HLT := hide (fun k h => passN_ltD (l := l) (f := f) (k := k) h)
  have HAT := hide (fun h => passN_atD (l := l) (f := f) h)
  obtain ⟨m, hm⟩ : ∃ m, passN l f = m := ⟨_, rfl⟩
  rw [hm] at HY HLT HAT hpl ⊢
  clear hY hB hC hr hk hm
  refine callsIn_of_wp Try.func59 rfl trivial ?_ rfl
  simp only [Try.ntmps59, List.size_toArray, List.length_cons, List.length_nil, Nat.reduceAdd, Nat.reduceSub, Array.replicate_succ, Array.replicate_zero, List.push_toArray, List.append_toArray, List.nil_append, List.cons_append]
  have c0 := hBW.cell 0; have c1 := hBW.cell 1; simp only [List.getElem?_cons_zero, List.getElem?_cons_succ] at c0 c1
  gi_wp2
  gi_loopw [9] (fun i wr => ∃ k : Nat, k ≤ m ∧ i = .int .i64 k ∧ Blk wr B 24 [.int .i64 base, .slice A l.length c] ∧ Blk wr C 3 [.int .i64 f] ∧ Rd wr A (gs l) ∧ J (List.range k) wr) (fun i _ => m + 1 - (intOf i).toNat)
  case atStart => exact ⟨0, Nat.zero_le _, rfl, hBW, hCW, hrW, h0⟩
  case round =>
    clear c0 c1 hBW hCW hrW h0
    obtain ⟨k, hkm, rfl, hBr, hCr, hrr, hj⟩ := hrel
    have hzB := hBr.lt
    have hzC := hCr.lt
    have y0 := hCr.cell 0
    simp only [List.getElem?_cons_zero] at y0
    have hJr := hJ (List.range k) wr
    by_cases hlt : k < l.length
    · obtain ⟨b, off, rfl, hblt, hc0, hc1⟩ := hrr.g_at hlt
      by_cases hkp : k < m
      · have hp := HLT.out k hkp
        rw [getD_at hlt] at hp
        have HV : Hid (IsSlab l k #[.agg #[.int .i64 l[k].1, .int .i64 l[k].2]] wr) := by show IsSlab _ _ _ _; unfold IsSlab; rw [getD_at hlt]
        generalize l[k].1 = sq at hc0 hp HV
        generalize l[k].2 = t at hc1 HV
        have e1 : decide (sq < f * f) = true := by simpa using hp
        have HP := hide (fun W => passes_c f sq W h1 h2)
        rw [e1] at HP
        clear e1 hp
        gi_wp2_with (refine ⟨trivial, ?_⟩; gi_at_call 60; refine (CallsIn.mono (callsIn_wide.2 (HP.out _)) ?_); rintro e w1 ⟨rfl, rfl⟩)
        obtain ⟨rest, hrest⟩ := range_split hkp
        obtain ⟨fn, tmps, assign, body, hy, hR⟩ := HY.out (List.range k) k rest (wr.alloc (.cells #[.int .i64 sq, .int .i64 t] 47)) #[.agg #[.int .i64 sq, .int .i64 t]] hrest (hJr _ hj (alloc_bel _ _)) HV.out
        rw [hy, Oper.uponIn_round]
        refine ⟨fun h => (by cases h), ?_⟩
        refine hR.mono ?_
        rintro e W3 ⟨rfl, hJ3, hk3⟩
        have hB3 : Blk W3 B 24 _ := (hk3.block B hSB).trans (hBr.bel (alloc_bel _ _))
        have hC3 : Blk W3 C 3 _ := (hk3.block C hSC).trans (hCr.bel (alloc_bel _ _))
        have hr3 := (hrr.alloc _).keepS hSA hk3
        gi_wp2
        go_roundw
        case rel => exact ⟨k + 1, by omega, by go_num, hB3, hC3, hr3, by rw [List.range_succ]; exact hJ3⟩
        case measure => simp [intOf]; omega
      · obtain rfl : k = m := by omega
        have hp := HAT.out hlt
        rw [getD_at hlt] at hp
        generalize l[k].1 = sq at hc0 hp
        generalize l[k].2 = t at hc1
        have e1 : decide (sq < f * f) = false := by simpa using hp
        have HP := hide (fun W => passes_c f sq W h1 h2)
        rw [e1] at HP
        clear e1 hp
        gi_wp2_with (refine ⟨trivial, ?_⟩; gi_at_call 60; refine (CallsIn.mono (callsIn_wide.2 (HP.out _)) ?_); rintro e w1 ⟨rfl, rfl⟩)
        refine ⟨fun f h => (by cases h), ?_⟩
        gi_wp2
        exact bodyPost_ret (results_none rfl _ _ _) rfl ⟨⟨_, rfl⟩, hJr _ hj (alloc_bel _ _)⟩
    · obtain rfl : k = m := by omega
      gi_wp2
      go_end0
      exact ⟨⟨_, rfl⟩, hj⟩
end Go.Proofs.Ytdeehodekilaiaa
