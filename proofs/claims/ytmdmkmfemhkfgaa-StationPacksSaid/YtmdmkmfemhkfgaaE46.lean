/- Contracts: chunks of two (an iterator). -/
import Derived.Test.YtmdmkmfemhkfgaaE45
set_option linter.unusedSimpArgs false
set_option linter.unusedVariables false
set_option linter.unusedSimpArgs false
set_option linter.unusedVariables false
namespace Go.Proofs.Ytmdmkmfemhkfgaa
open Go.RowKit
set_option maxRecDepth 100000
attribute [local go_sem] Oper.semAt_some

theorem chunk_c (A : Option Addr) (n c : Nat) (w : World) :
    Calls Try.prog 90 #[.slice A n c, .int .i64 2] w fun r w' => r = .returned (.func (.func 100) #[] #[.pointer (some ⟨w.heap.size, 0, none⟩), .pointer (some ⟨w.heap.size + 1, 0, none⟩)]) ∧ w' = (w.alloc (.cells #[.slice A n c] 47)).alloc (.cells #[.int .i64 2] 3) := by
  go_enter Try.func90, Try.ntmps90
  go_wp2
  go_ret
  exact ⟨by simp, rfl⟩
/-- A piece of two cells. -/
def IsPair (x : G) (args : Array Value) (W : World) : Prop := ∃ b o, args = #[.slice (some ⟨b, o, none⟩) 2 2] ∧ W.cell? ⟨b, o, none⟩ = some (.int .i64 x.1) ∧ W.cell? ⟨b, o + 1, none⟩ = some (.int .i64 x.2)
theorem cell_putObj {W : World} {p : Addr} {u : Value} (h : W.cell? p = some u) {l : Nat} {o : Obj} (o' : Obj) (hl : W.heap[l]? = some o) (ho : o.isCells = false) : (W.putObj l o').cell? p = some u := by
  refine (World.cell?_of_block (World.putObj_heap_other ?_)).trans h
  intro e
  obtain ⟨o2, h2, h3⟩ := cells_of_cell h
  rw [e, hl] at h2
  cases h2
  rw [ho] at h3
  cases h3
theorem IsPair.deaf {x : G} {args : Array Value} {W : World} (h : IsPair x args W) {l : Nat} {o : Obj} (o' : Obj) (hl : W.heap[l]? = some o) (ho : o.isCells = false) : IsPair x args (W.putObj l o') := by
  obtain ⟨b, off, e, h1, h2⟩ := h
  exact ⟨b, off, e, cell_putObj h1 o' hl ho, cell_putObj h2 o' hl ho⟩
theorem flat_at {l : List G} {k : Nat} (h : k < l.length) : (flat l)[2 * k]? = some l[k].1 ∧ (flat l)[2 * k + 1]? = some l[k].2 := by
  induction l generalizing k with
  | nil => simp at h
  | cons g l ih =>
    cases k with
    | zero => simp [flat]
    | succ k =>
      have := ih (k := k) (by simpa using h)
      have e : flat (g :: l) = g.1 :: g.2 :: flat l := by simp [flat]
      rw [e, show 2 * (k + 1) = 2 * k + 1 + 1 by omega]
      simpa using this
set_option maxHeartbeats 2000000 in
theorem chunk_iter (n Bn Bm : Nat) (hn : 1 ≤ n) (l : List G) (A : Option Addr) (c : Nat) (hl : l.length ≤ 1000) (S : Nat → Prop) (hS : S Bn) (hS' : S Bm) (hSA : flat l ≠ [] → ∀ b off, A = some ⟨b, off, none⟩ → S b) (w : World) (hc : w.cell? ⟨Bn, 0, none⟩ = some (.slice A (flat l).length c)) (hm : w.cell? ⟨Bm, 0, none⟩ = some (.int .i64 2)) (hcap : (flat l).length ≤ c) (hr : Rd w A (ints (flat l))) :
    Iter Try.prog n 100 #[.pointer (some ⟨Bn, 0, none⟩), .pointer (some ⟨Bm, 0, none⟩)] IsPair l S w := by
  intro l' J W hk hJ hY h0
  have hcW : W.cell? ⟨Bn, 0, none⟩ = some (.slice A (flat l).length c) := (hk.cell (p := ⟨Bn, 0, none⟩) hS).trans hc
  have hmW : W.cell? ⟨Bm, 0, none⟩ = some (.int .i64 2) := (hk.cell (p := ⟨Bm, 0, none⟩) hS').trans hm
  have hrW := hr.keepS (fun h b off e => hSA (fun h' => h (by rw [h']; rfl)) b off e) hk
  have HY := hide hY
  clear hY hc hm hr
  obtain ⟨N, hN⟩ : ∃ N, (flat l).length = N := ⟨_, rfl⟩
  have hN2 : Hid (N = 2 * l.length) := by show _ = _; rw [← hN]; exact flat_length l
  have hN3 : N ≤ 2000 := by have := hN2.out; omega
  rw [hN] at hcW hcap
  have hN' := hide hN
  clear hN
  refine callsIn_of_wp Try.func100 rfl trivial ?_ rfl
  simp only [Try.ntmps100, List.size_toArray, List.length_cons, List.length_nil, Nat.reduceAdd, Nat.reduceSub, Array.replicate_succ, Array.replicate_zero, List.push_toArray, List.append_toArray, List.nil_append, List.cons_append]
  gi_wp2
  gi_loopw [4] (fun e wr => ∃ k E : Nat, e = .int .i64 (E : Int) ∧ Hid (E = 2 * k) ∧ k ≤ l.length ∧ wr.cell? ⟨Bn, 0, none⟩ = some (.slice A N c) ∧ wr.cell? ⟨Bm, 0, none⟩ = some (.int .i64 2) ∧ Rd wr A (ints (flat l)) ∧ J (l.take k) wr) (fun e _ => N - (intOf e).toNat)
  case atStart => exact ⟨0, 0, rfl, rfl, Nat.zero_le _, hcW, hmW, hrW, h0⟩
  case round =>
    obtain ⟨k, E, rfl, hE, hk', hcr, hmr, hrr, hj⟩ := hrel
    have hEo := hE.out
    have hNo := hN2.out
    by_cases hlt : k < l.length
    · have hEN : E + 2 ≤ N := by omega
      clear hEo hNo
      have hX : Hid (l = l.take k ++ l[k] :: l.drop (k + 1)) := by show _ = _; rw [List.getElem_cons_drop, List.take_append_drop]
      have hT : Hid (l.take (k + 1) = l.take k ++ [l[k]]) := List.take_succ_eq_append_getElem hlt
      have hf0 : E < (flat l).length := by rw [hN'.out]; omega
      have hf1 : E + 1 < (flat l).length := by rw [hN'.out]; omega
      obtain ⟨b, off, rfl, hblt, x0⟩ := hrr.int_at hf0
      obtain ⟨_, _, e', _, x1⟩ := hrr.int_at hf1
      injection e' with e'
      injection e' with eb eo
      subst eb eo
      have hg0 : (flat l)[E]'hf0 = l[k].1 := by
        have := (flat_at hlt).1
        rw [← hE.out, List.getElem?_eq_getElem hf0] at this
        exact Option.some.inj this
      have hg1 : (flat l)[E + 1]'hf1 = l[k].2 := by
        have := (flat_at hlt).2
        rw [← hE.out, List.getElem?_eq_getElem hf1] at this
        exact Option.some.inj this
      rw [hg0] at x0
      rw [hg1] at x1
      have HSA := hide hSA
      generalize l[k] = y at x0 x1 hX hT
      have i0 : (E : Int) < (N : Int) := by omega
      have i1 : ¬ (c = E) := by omega
      have i2 : ¬ ((N - E : Nat) : Int) < 2 := by omega
      have i3 : E ≤ c := by omega
      have i4 : IntKind.i64.wrap ((E : Int) + 2) = (E : Int) + 2 := by simp (disch := omega) only [IntWalk.i64_in]
      refine wpIn_wide.2 ?_
      go_wp2
      go_quiet (fail)
      have i5 : E + 2 ≤ c := by omega
      have i6 : (E : Int) + 2 ≤ (c : Int) := by omega
      go_upto_region 4 with fail
      refine (wpIn_wide (n := n)).1 ?_
      gi_wp2
      obtain ⟨fn, tmps, assign, body, hy, hR⟩ := HY.out (l.take k) y (l.drop (k + 1)) (wr.drewN nq) #[.slice (some ⟨b, off + E, none⟩) 2 2] hX.out (hJ _ _ _ hj (below_drewN (Below.refl _ _) _)) ⟨b, off + E, rfl, x0, by rw [Nat.add_assoc]; exact x1⟩
      rw [hy, Oper.uponIn_round]
      refine ⟨fun h => (by cases h), ?_⟩
      refine hR.mono ?_
      rintro e W3 ⟨rfl, hJ3, hk3⟩
      have hc3 : W3.cell? ⟨Bn, 0, none⟩ = some (.slice (some ⟨b, off, none⟩) N c) := (hk3.cell (p := ⟨Bn, 0, none⟩) hS).trans hcr
      have hm3 : W3.cell? ⟨Bm, 0, none⟩ = some (.int .i64 2) := (hk3.cell (p := ⟨Bm, 0, none⟩) hS').trans hmr
      have hr3 : Rd W3 (some ⟨b, off, none⟩) (ints (flat l)) := Rd.keepS (w := wr.drewN nq) hrr (fun h b' off' e => HSA.out (fun h' => h (by rw [h']; rfl)) b' off' e) hk3
      have hE3 : Hid (E + 2 = 2 * (k + 1)) := by show _ = _; rw [hE.out]; omega
      rw [← hT.out] at hJ3
      gi_wp2
      go_wp2
      go_roundw
      case rel => exact ⟨k + 1, E + 2, by go_num, hE3, by omega, hc3, hm3, hr3, hJ3⟩
      case measure => simp [intOf]; omega
    · obtain rfl : k = l.length := by omega
      have hEN : E = N := by omega
      clear hEo hNo
      subst hEN
      rw [List.take_of_length_le (Nat.le_refl _)] at hj
      gi_wp2
      go_end0
      exact ⟨⟨_, rfl⟩, hj⟩
end Go.Proofs.Ytmdmkmfemhkfgaa
