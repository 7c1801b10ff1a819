/- Contracts: a pair that some predicate holds of; slots that are taken. -/
import Derived.Test.YtnjdkdmfeonabaaE10
set_option linter.unusedSimpArgs false
set_option linter.unusedVariables false
set_option linter.unusedSimpArgs false
set_option linter.unusedVariables false
namespace Go.Proofs.Ytnjdkdmfeonabaa
open Go.RowKit
set_option maxRecDepth 100000

theorem indexFunc_c (pred : G → Bool) (f : FuncId) (l : List G) (A : Option Addr) (c : Nat) (cap : Array Value) (w : World) (hr : Rd w A (gs l)) (hl : l.length ≤ 1000)
    (hE : ∀ (args : Array Value) (W : World), (callFunc f args).run Try.prog W = .ok (.enter f args) W)
    (hchk : ∀ (k : Nat) (h : k < l.length) (W : World), Below w.heap.size w W → Calls Try.prog f (#[.agg #[.int .i64 l[k].1, .int .i64 l[k].2]] ++ cap) W fun r W' => r = .returned (.bool (pred l[k])) ∧ Below W.heap.size W W') :
    Calls Try.prog 50 #[.slice A l.length c, .func (.func f) #[] cap] w fun r w' => (∃ i : Int, r = .returned (.int .i64 i) ∧ decide (0 ≤ i) = l.any pred) ∧ Below w.heap.size w w' := by
  have HC := hide hchk
  clear hchk
  go_enter Try.func50, Try.ntmps50
  go_wp2
  go_loopw [8] (fun i wr => ∃ k : Nat, k ≤ l.length ∧ i = .int .i64 k ∧ Below w.heap.size w wr ∧ Hid (∀ j (h : j < l.length), j < k → pred l[j] = false)) (fun i _ => l.length - (intOf i).toNat)
  case atStart => exact ⟨0, Nat.zero_le _, rfl, Below.refl _ _, fun _ _ h => by omega⟩
  case round =>
    obtain ⟨k, hk, rfl, hb, h0⟩ := hrel
    by_cases hlt : k < l.length
    · obtain ⟨b, off, rfl, hblt, hc0, hc1⟩ := (hr.bel hb).g_at hlt
      by_cases hz : pred l[k] = true
      · have H1 : Hid (l.any pred = true) := List.any_eq_true.2 ⟨l[k], List.getElem_mem hlt, hz⟩
        go_wp2_with (refine (HC.out k hlt _ hb).mono ?_; rintro e w' ⟨rfl, hb1⟩)
        go_ret
        exact ⟨⟨k, rfl, by rw [H1.out]; simp⟩, bel_tr hb hb.size hb1⟩
      · have hz' : pred l[k] = false := by simpa using hz
        have H1 : Hid (∀ j (h : j < l.length), j < k + 1 → pred l[j] = false) := fun j h hj => by
          by_cases e : j = k
          · subst e; exact hz'
          · exact h0.out j h (by omega)
        clear hz
        go_wp2_with (refine (HC.out k hlt _ hb).mono ?_; rintro e w' ⟨rfl, hb1⟩)
        go_roundw
        case rel => exact ⟨k + 1, by omega, by go_num, bel_tr hb hb.size hb1, H1⟩
        case measure => simp [intOf]; omega
    · obtain rfl : k = l.length := by omega
      have H1 : Hid (l.any pred = false) := by
        show _ = _
        rw [List.any_eq_false]
        intro x hx
        obtain ⟨j, hj, rfl⟩ := List.getElem_of_mem hx
        simp [h0.out j hj hj]
      go_wp2
      go_ret
      exact ⟨⟨-1, rfl, by rw [H1.out]; rfl⟩, hb⟩
theorem containsFunc_c (pred : G → Bool) (f : FuncId) (l : List G) (A : Option Addr) (c : Nat) (cap : Array Value) (w : World) (hr : Rd w A (gs l)) (hl : l.length ≤ 1000)
    (hE : ∀ (args : Array Value) (W : World), (callFunc f args).run Try.prog W = .ok (.enter f args) W)
    (hchk : ∀ (k : Nat) (h : k < l.length) (W : World), Below w.heap.size w W → Calls Try.prog f (#[.agg #[.int .i64 l[k].1, .int .i64 l[k].2]] ++ cap) W fun r W' => r = .returned (.bool (pred l[k])) ∧ Below W.heap.size W W') :
    Calls Try.prog 39 #[.slice A l.length c, .func (.func f) #[] cap] w fun r w' => r = .returned (.bool (l.any pred)) ∧ Below w.heap.size w w' := by
  have HI := hide (indexFunc_c pred f l A c cap w hr hl hE hchk)
  clear hchk
  go_enter Try.func39, Try.ntmps39
  go_wp2_with (first | (go_at_call 50; refine HI.out.mono ?_; rintro e_ w1 ⟨⟨i, rfl, hi⟩, hb1⟩))
  go_ret
  exact ⟨by rw [← hi]; rfl, hb1⟩

/-- The slot is taken for the next station by this pair. -/
def taken (slots : List Int) (s : Int) (p : G) : Bool := p.2 == (slots.length : Int) && slots.getD p.1.toNat 0 == s
theorem planFrom1_c (a b s : Int) (slots : List Int) (Bs Bv Bk : Nat) (A : Option Addr) (c : Nat) (w : World) (hs : w.cell? ⟨Bs, 0, none⟩ = some (.int .i64 (slots.length : Int))) (hv : w.cell? ⟨Bv, 0, none⟩ = some (.slice A slots.length c)) (hk : w.cell? ⟨Bk, 0, none⟩ = some (.int .i64 s)) (hr : Rd w A (ints slots)) (hl : slots.length ≤ 1000) (h0 : 0 ≤ a) (hab : a < b) :
    Calls Try.prog 38 (#[.agg #[.int .i64 a, .int .i64 b]] ++ #[.pointer (some ⟨Bs, 0, none⟩), .pointer (some ⟨Bv, 0, none⟩), .pointer (some ⟨Bk, 0, none⟩)]) w fun r w' => r = .returned (.bool (taken slots s (a, b))) ∧ Below w.heap.size w w' := by
  rw [show (#[.agg #[.int .i64 a, .int .i64 b]] ++ #[.pointer (some ⟨Bs, 0, none⟩), .pointer (some ⟨Bv, 0, none⟩), .pointer (some ⟨Bk, 0, none⟩)] : Array Value) = #[.agg #[.int .i64 a, .int .i64 b], .pointer (some ⟨Bs, 0, none⟩), .pointer (some ⟨Bv, 0, none⟩), .pointer (some ⟨Bk, 0, none⟩)] from rfl]
  obtain ⟨W, hW⟩ : ∃ W, w.alloc (.cells #[.int .i64 a, .int .i64 b] 63) = W := ⟨_, rfl⟩
  have hB0 : Below w.heap.size w W := by rw [← hW]; exact alloc_bel _ _
  have hY0 : Blk W w.heap.size 63 [.int .i64 a, .int .i64 b] := by rw [← hW]; exact Blk.new w _ [_, _]
  have s0 := (hB0.cell (p := ⟨Bs, 0, none⟩) (World.block_lt_of_cell? _ _ hs)).trans hs
  have s1 := (hB0.cell (p := ⟨Bv, 0, none⟩) (World.block_lt_of_cell? _ _ hv)).trans hv
  have s2 := (hB0.cell (p := ⟨Bk, 0, none⟩) (World.block_lt_of_cell? _ _ hk)).trans hk
  have hr0 := hr.bel hB0
  have d0 := hY0.cell 0; have d1 := hY0.cell 1; simp only [List.getElem?_cons_zero, List.getElem?_cons_succ] at d0 d1
  have HW := hide hW
  clear hW hs hv hk hr
  by_cases hb : b = (slots.length : Int)
  · have hlt : a.toNat < slots.length := by omega
    obtain ⟨g, off, rfl, hg, x0⟩ := hr0.int_at hlt
    have e1 : (b == (slots.length : Int)) = true := by simpa using hb
    have ha : ((a.toNat : Nat) : Int) = a := by omega
    have i1 : a < (slots.length : Int) := by omega
    have HR : Hid (taken slots s (a, b) = (slots[a.toNat] == s)) := by
      show _ = _
      unfold taken
      rw [List.getD, List.getElem?_eq_getElem hlt]
      dsimp only
      rw [e1]
      rfl
    generalize slots[a.toNat] = x at x0 HR
    clear hb hr0 hY0
    go_enter Try.func38, Try.ntmps38
    go_upto_region 1 with fail
    rw [HW.out]
    go_quiet (fail)
    go_wp2
    go_ret
    exact ⟨by rw [HR.out]; rfl, below_drewN hB0 _⟩
  · have e1 : (b == (slots.length : Int)) = false := by simpa using hb
    have HR : Hid (taken slots s (a, b) = false) := by
      show _ = _
      unfold taken
      dsimp only
      rw [e1]
      rfl
    clear hb hr0 hY0
    go_enter Try.func38, Try.ntmps38
    go_upto_region 1 with fail
    rw [HW.out]
    go_quiet (fail)
    go_wp2
    go_ret
    exact ⟨by rw [HR.out]; rfl, below_drewN hB0 _⟩

/-- Slots for r stations more, tried one by one. -/
def planF (pairs : List G) (count : Nat) : Nat → List Int → Option (List Int)
  | 0, slots => some slots
  | r + 1, slots => (List.range count).findSome? fun (s : Nat) => if pairs.any (taken slots (s : Int)) then none else planF pairs count r (slots ++ [(s : Int)])
end Go.Proofs.Ytnjdkdmfeonabaa
