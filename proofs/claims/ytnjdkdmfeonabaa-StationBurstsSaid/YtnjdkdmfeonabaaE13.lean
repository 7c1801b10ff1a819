/- Contracts: the plan with the fewest slots. -/
import Derived.Test.YtnjdkdmfeonabaaE12
set_option linter.unusedSimpArgs false
set_option linter.unusedVariables false
set_option linter.unusedSimpArgs false
set_option linter.unusedVariables false
namespace Go.Proofs.Ytnjdkdmfeonabaa
open Go.RowKit
set_option maxRecDepth 100000

theorem firstE_2 {a b : Int} (h : firstE [a, b] = 0) : a = 0 ∧ b = 0 := by
  simp only [firstE] at h
  by_cases h1 : a = 0
  · rw [if_pos h1] at h
    by_cases h2 : b = 0
    · exact ⟨h1, h2⟩
    · rw [if_neg h2] at h; exact absurd h h2
  · rw [if_neg h1] at h; exact absurd h h1
/-- What is known of a net without an error. -/
structure Net (n : Int) (l : List G) : Prop where
  n0 : 1 ≤ n
  n1 : n ≤ 8
  m : l.length ≤ 28
  pair : ∀ k (h : k < l.length), 0 ≤ l[k].1 ∧ l[k].1 < l[k].2 ∧ l[k].2 ≤ n - 1
theorem netE_zero {n : Int} {l : List G} (h : (netE n l).2 = 0) : Net n l := by
  unfold netE at h
  by_cases h0 : netHead n l.length = 0
  · rw [if_pos h0] at h
    obtain ⟨h1, h2, h3⟩ := netHead_zero h0
    refine ⟨h1, h2, h3, fun k hk => ?_⟩
    obtain ⟨h4, h5, _⟩ := firstE_3 (firstBadFrom_snd h k hk)
    have h6 := errIf_zero (by decide) h4
    have h7 := errIf_zero (by decide) h5
    simp only [Bool.or_eq_false_iff] at h6
    have h8 := outB_false.1 h6.1
    have h9 := outB_false.1 h6.2
    simp at h7
    omega
  · rw [if_neg h0] at h; exact absurd h h0

/-- What PlanFor returns for a net without an error. -/
def PlanAns (n : Nat) (l : List G) (k : Nat) (v : Value) (w : World) : Prop :=
  1 ≤ k ∧ k ≤ n ∧ (∀ j, 1 ≤ j → j < k → planF l j n [] = none) ∧
  ((k = n ∧ planF l k n [] = none ∧ v = .slice none 0 0) ∨ (∃ out g o c, planF l k n [] = some out ∧ v = .slice (some ⟨g, o, none⟩) n c ∧ Rd w (some ⟨g, o, none⟩) (ints out) ∧ out.length = n))

set_option maxHeartbeats 2000000 in
theorem planFor_ok (n : Nat) (A : Option Addr) (c : Nat) (l : List G) (w : World) (hr : Rd w A (gs l)) (hl : l.length ≤ 1000)
    (hc : ∀ W, Rd W A (gs l) → Calls Try.prog 37 #[.agg #[.int .i64 (n : Int), .slice A l.length c]] W fun r w' => r = .returned (.tuple #[.int .i64 (netE n l).1, .int .i64 (netE n l).2]) ∧ Below W.heap.size W w') (he : (netE n l).2 = 0) :
    Calls Try.prog 11 #[.agg #[.int .i64 (n : Int), .slice A l.length c]] w fun r w' => (∃ (k : Nat) (v : Value), r = .returned (.tuple #[v, .int .i64 (k : Int), .int .i64 0]) ∧ PlanAns n l k v w') ∧ Below w.heap.size w w' := by
  have HE := hide (fun W (h : Rd W A (gs l)) => netError_of (n : Int) A c l W (netE n l) (fun W' hb => hc W' (h.bel hb)))
  rw [he] at HE
  have hN := netE_zero he
  have hn1 : 1 ≤ n := by have := hN.n0; omega
  have hn8 : n ≤ 8 := by have := hN.n1; omega
  have HPF := hide (fun count n₀ hc8 w' hw hr hlow => planFrom_c l A c n count n₀ hn1 hn8 hc8 hl (fun k h => ⟨(hN.pair k h).1, (hN.pair k h).2.1⟩) n [] none 0 w' (by simp) hw (World.ownsRow_nil _ _ _ _) hr hlow)
  clear hc he hN
  obtain ⟨p, hp⟩ : ∃ p, w.heap.size = p := ⟨_, rfl⟩
  obtain ⟨W, hW⟩ : ∃ W, w.alloc (.cells #[.int .i64 (n : Int), .slice A l.length c] 45) = W := ⟨_, rfl⟩
  have hX : Blk W p 45 [.int .i64 (n : Int), .slice A l.length c] := by rw [← hW, ← hp]; exact Blk.new w _ [_, _]
  have hB : Below p w W := by rw [← hW, ← hp]; exact alloc_bel _ _
  have hrW := hr.bel (by rw [hp]; exact hB)
  have hlowW := hrW.low
  have c0 := hX.cell 0; have c1 := hX.cell 1; simp only [List.getElem?_cons_zero, List.getElem?_cons_succ] at c0 c1
  have HW := hide hW
  clear hW
  go_enter Try.func11, Try.ntmps11
  go_upto_region 1 with fail
  rw [HW.out]
  go_upto_region 4 with (first | (go_at_call 24; refine (HE.out _ hrW).mono ?_; rintro e_ w2 ⟨rfl, hb2⟩))
  have hX2 := hX.bel hb2
  have hr2 := hrW.bel hb2
  have hB2 : Below p w w2 := bel_tr hB (by have := hX.lt; omega) hb2
  have hlow2 : gs l ≠ [] → ∀ b off, A = some ⟨b, off, none⟩ → b < w2.heap.size := fun hx b off e => by have := hlowW hx b off e; have := hb2.size; omega
  have hz2 := hX2.lt
  clear c0 c1 HE hlowW hrW hX
  go_wp2
  go_loopw [6, 7] (fun v x wr => ∃ k : Nat, k ≤ n ∧ x = .int .i64 k ∧ Below w2.heap.size w2 wr ∧ Hid (∀ j, 1 ≤ j → j < k → planF l j n [] = none) ∧ ((v = .slice none 0 0 ∧ Hid (1 ≤ k → planF l k n [] = none)) ∨ (1 ≤ k ∧ ∃ out g o c, v = .slice (some ⟨g, o, none⟩) n c ∧ Hid (planF l k n [] = some out) ∧ Rd wr (some ⟨g, o, none⟩) (ints out) ∧ out.length = n))) (fun _ x _ => n - (intOf x).toNat)
  case atStart => exact ⟨0, Nat.zero_le _, rfl, Below.refl _ _, fun j h1 h2 => by omega, .inl ⟨rfl, fun h => by omega⟩⟩
  case round =>
    obtain ⟨k, hk, rfl, hbr, h0, hv⟩ := hrel
    have hXr := hX2.bel hbr
    have hrr := hr2.bel hbr
    have hsr := hbr.size
    have c0 := hXr.cell 0; have c1 := hXr.cell 1; simp only [List.getElem?_cons_zero, List.getElem?_cons_succ] at c0 c1
    have hBr : Below p w wr := bel_tr hB2 (by omega) (hbr)
    rcases hv with ⟨rfl, hnone⟩ | ⟨hk1, out, g, o, cc, rfl, hsome, hout⟩
    · have hq : ∀ W, (binOp .eql 36 (.slice none 0 0) (.slice none 0 0)).run Try.prog W = .ok (.bool true) W := fun W => eql_nil _ _ _ _ _ Try.underlying36 W
      by_cases hlt : k < n
      · have p1 : decide ((k : Int) < (n : Int)) = true := decide_eq_true (by omega)
        have p2 : (k : Int) < (n : Int) := by omega
        have HK := hide (HPF.out (k + 1) wr.heap.size (by omega) wr (Nat.le_refl _) hrr (fun hx b off e => by have := hlow2 hx b off e; omega))
        rw [show (((k + 1 : Nat)) : Int) = (k : Int) + 1 by omega] at HK
        simp only [List.length_nil] at HK
        have H1 : Hid (∀ j, 1 ≤ j → j < k + 1 → planF l j n [] = none) := fun j h1 h2 => by
          by_cases e : j = k
          · subst e; exact hnone.out h1
          · exact h0.out j h1 (by omega)
        generalize hres : planF l (k + 1) n [] = rs at HK
        cases rs with
        | none =>
          have HK2 : Hid (Calls Try.prog 25 #[.agg #[.int .i64 (n : Int), .slice A l.length c], .slice none 0 0, .int .i64 ((k : Int) + 1)] wr fun e w' => e = .returned (.slice none 0 0) ∧ Below wr.heap.size wr w') := HK.out.mono fun e w' hx => ⟨(hx.2.1 rfl).1, hx.2.2.os, hx.2.2.tape, hx.2.2.output, hx.2.2.size, fun j hj => hx.2.2.block j hj (by simp [Value.ownBlock])⟩
          have HRS := hide hres
          clear HK hres
          go_wp2_with (first | (go_at_call 25; refine HK2.out.mono ?_; rintro e_ w5 ⟨rfl, hb5⟩))
          go_roundw
          case rel => exact ⟨k + 1, by omega, by go_num, bel_tr hbr hbr.size hb5, H1, .inl ⟨rfl, fun _ => HRS.out⟩⟩
          case measure => simp [intOf]; omega
        | some out =>
          have HK2 : Hid (Calls Try.prog 25 #[.agg #[.int .i64 (n : Int), .slice A l.length c], .slice none 0 0, .int .i64 ((k : Int) + 1)] wr fun e w' => ∃ g o cc, e = .returned (.slice (some ⟨g, o, none⟩) n cc) ∧ (Rd w' (some ⟨g, o, none⟩) (ints out) ∧ out.length = n) ∧ Below wr.heap.size wr w') := HK.out.mono fun e w' hx => by
            obtain ⟨g, o, cc, h1, h2⟩ := hx.1 out rfl
            exact ⟨g, o, cc, h1, h2, hx.2.2.os, hx.2.2.tape, hx.2.2.output, hx.2.2.size, fun j hj => hx.2.2.block j hj (by simp [Value.ownBlock])⟩
          have HRS := hide hres
          clear HK hres
          go_wp2_with (first | (go_at_call 25; refine HK2.out.mono ?_; rintro e_ w5 ⟨g, o, cc, rfl, hout, hb5⟩))
          go_roundw
          case rel => exact ⟨k + 1, by omega, by go_num, bel_tr hbr hbr.size hb5, H1, .inr ⟨by omega, out, g, o, cc, rfl, HRS.out, hout⟩⟩
          case measure => simp [intOf]; omega
      · obtain rfl : k = n := by omega
        have p1 : decide ((k : Int) < (k : Int)) = false := decide_eq_false (by omega)
        clear hq
        go_wp2
        refine bodyPost_ret (v := .tuple #[.slice none 0 0, .int .i64 (k : Int), .int .i64 0]) (by simp [results, Try.results11, go_sem]; try rfl) rfl ⟨⟨k, _, rfl, hn1, Nat.le_refl _, h0.out, .inl ⟨rfl, hnone.out hn1, rfl⟩⟩, by rw [hp]; exact hBr⟩
    · have hq : ∀ W, (binOp .eql 36 (.slice (some ⟨g, o, none⟩) n cc) (.slice none 0 0)).run Try.prog W = .ok (.bool false) W := fun W => eql_nil _ _ _ _ _ Try.underlying36 W
      by_cases hlt : k < n
      · have p1 : decide ((k : Int) < (n : Int)) = true := decide_eq_true (by omega)
        have p2 : (k : Int) < (n : Int) := by omega
        go_wp2
        refine bodyPost_ret (v := .tuple #[.slice (some ⟨g, o, none⟩) n cc, .int .i64 (k : Int), .int .i64 0]) (by simp [results, Try.results11, go_sem]; try rfl) rfl ⟨⟨k, _, rfl, hk1, hk, h0.out, .inr ⟨out, g, o, cc, hsome.out, rfl, hout⟩⟩, by rw [hp]; exact hBr⟩
      · obtain rfl : k = n := by omega
        have p1 : decide ((k : Int) < (k : Int)) = false := decide_eq_false (by omega)
        clear hq
        go_wp2
        refine bodyPost_ret (v := .tuple #[.slice (some ⟨g, o, none⟩) k cc, .int .i64 (k : Int), .int .i64 0]) (by simp [results, Try.results11, go_sem]; try rfl) rfl ⟨⟨k, _, rfl, hk1, hk, h0.out, .inr ⟨out, g, o, cc, hsome.out, rfl, hout⟩⟩, by rw [hp]; exact hBr⟩
end Go.Proofs.Ytnjdkdmfeonabaa
