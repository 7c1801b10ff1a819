/- Contracts: numbers that some predicate holds of; the greatest group, station by station. -/
import Derived.Test.YtmdmkmfemhkfgaaE32
set_option linter.unusedSimpArgs false
set_option linter.unusedVariables false
set_option linter.unusedSimpArgs false
set_option linter.unusedVariables false
namespace Go.Proofs.Ytmdmkmfemhkfgaa
open Go.RowKit
set_option maxRecDepth 100000

theorem indexFuncI_c (pred : Int → Bool) (f : FuncId) (l : List Int) (A : Option Addr) (c : Nat) (cap : Array Value) (w : World) (hr : Rd w A (ints l)) (hl : l.length ≤ 1000)
    (hE : ∀ (args : Array Value) (W : World), (callFunc f args).run Try.prog W = .ok (.enter f args) W)
    (hchk : ∀ (k : Nat) (h : k < l.length) (W : World), Below w.heap.size w W → Calls Try.prog f (#[.int .i64 l[k]] ++ cap) W fun r W' => r = .returned (.bool (pred l[k])) ∧ Below W.heap.size W W') :
    Calls Try.prog 103 #[.slice A l.length c, .func (.func f) #[] cap] w fun r w' => (∃ i : Int, r = .returned (.int .i64 i) ∧ decide (0 ≤ i) = l.any pred) ∧ Below w.heap.size w w' := by
  have HC := hide hchk
  clear hchk
  go_enter Try.func103, Try.ntmps103
  go_wp2
  go_loopw [8] (fun i wr => ∃ k : Nat, k ≤ l.length ∧ i = .int .i64 k ∧ Below w.heap.size w wr ∧ Hid (∀ j (h : j < l.length), j < k → pred l[j] = false)) (fun i _ => l.length - (intOf i).toNat)
  case atStart => exact ⟨0, Nat.zero_le _, rfl, Below.refl _ _, fun _ _ h => by omega⟩
  case round =>
    obtain ⟨k, hk, rfl, hb, h0⟩ := hrel
    by_cases hlt : k < l.length
    · obtain ⟨b, off, rfl, hblt, hc0⟩ := (hr.bel hb).int_at hlt
      by_cases hz : pred l[k] = true
      · have H1 : Hid (l.any pred = true) := List.any_eq_true.2 ⟨l[k], List.getElem_mem hlt, hz⟩
        go_wp2_with (refine (HC.out k hlt _ hb).mono ?_; rintro e w' ⟨rfl, hb1⟩)
        go_ret
        exact ⟨⟨k, rfl, by rw [H1.out]; simp⟩, bel_tr hb hb.size hb1⟩
      · have hz' : pred l[k] = false := by simpa using hz
        have H1 : Hid (∀ j (h : j < l.length), j < k + 1 → pred l[j] = false) := fun j h hj => by
          by_cases e : j = k
          · subst e; exact hz'
          · exact h0.out j h (by omega)
        clear hz
        go_wp2_with (refine (HC.out k hlt _ hb).mono ?_; rintro e w' ⟨rfl, hb1⟩)
        go_roundw
        case rel => exact ⟨k + 1, by omega, by go_num, bel_tr hb hb.size hb1, H1⟩
        case measure => simp [intOf]; omega
    · obtain rfl : k = l.length := by omega
      have H1 : Hid (l.any pred = false) := by
        show _ = _
        rw [List.any_eq_false]
        intro x hx
        obtain ⟨j, hj, rfl⟩ := List.getElem_of_mem hx
        simp [h0.out j hj hj]
      go_wp2
      go_ret
      exact ⟨⟨-1, rfl, by rw [H1.out]; rfl⟩, hb⟩
theorem containsFuncI_c (pred : Int → Bool) (f : FuncId) (l : List Int) (A : Option Addr) (c : Nat) (cap : Array Value) (w : World) (hr : Rd w A (ints l)) (hl : l.length ≤ 1000)
    (hE : ∀ (args : Array Value) (W : World), (callFunc f args).run Try.prog W = .ok (.enter f args) W)
    (hchk : ∀ (k : Nat) (h : k < l.length) (W : World), Below w.heap.size w W → Calls Try.prog f (#[.int .i64 l[k]] ++ cap) W fun r W' => r = .returned (.bool (pred l[k])) ∧ Below W.heap.size W W') :
    Calls Try.prog 96 #[.slice A l.length c, .func (.func f) #[] cap] w fun r w' => r = .returned (.bool (l.any pred)) ∧ Below w.heap.size w w' := by
  have HI := hide (indexFuncI_c pred f l A c cap w hr hl hE hchk)
  clear hchk
  go_enter Try.func96, Try.ntmps96
  go_wp2_with (first | (go_at_call 103; refine HI.out.mono ?_; rintro e_ w1 ⟨⟨i, rfl, hi⟩, hb1⟩))
  go_ret
  exact ⟨by rw [← hi]; rfl, hb1⟩

theorem groupFrom1_c (o k n : Int) (p q : Nat) (A : Option Addr) (c : Nat) (l : List G) (w : World) (hX : Blk w p 71 [.int .i64 n, .slice A l.length c]) (hq : w.cell? ⟨q, 0, none⟩ = some (.int .i64 k)) (hr : Rd w A (gs l)) (hl : l.length ≤ 1000) :
    Calls Try.prog 95 (#[.int .i64 o] ++ #[.pointer (some ⟨p, 0, none⟩), .pointer (some ⟨q, 0, none⟩)]) w fun r w' => r = .returned (.bool !(decide ((o, k) ∈ l))) ∧ Below w.heap.size w w' := by
  rw [show (#[.int .i64 o] ++ #[.pointer (some ⟨p, 0, none⟩), .pointer (some ⟨q, 0, none⟩)] : Array Value) = #[.int .i64 o, .pointer (some ⟨p, 0, none⟩), .pointer (some ⟨q, 0, none⟩)] from rfl]
  have HC := hide (contains_c l A c o k w hr hl)
  generalize decide ((o, k) ∈ l) = d at HC ⊢
  have c0 := hX.cell 0; have c1 := hX.cell 1; simp only [List.getElem?_cons_zero, List.getElem?_cons_succ] at c0 c1
  go_enter Try.func95, Try.ntmps95
  go_wp2_with (first | (go_at_call 73; refine HC.out.mono ?_; rintro e_ w1 ⟨rfl, hb1⟩))
  go_ret
  exact ⟨rfl, hb1⟩
/-- A station that does not disturb one of the group. -/
def apart (l : List G) (s : Int) (o : Int) : Bool := !(decide ((o, s) ∈ l))
/-- One station tried. -/
def better (best found : List Int) : List Int := if best.length < found.length then found else best
/-- The greatest group that begins so; r: how many stations may still come. -/
def groupF (l : List G) (n : Nat) : Nat → List Int → List Int
  | 0, g => g
  | r + 1, g => (List.range n).foldl (fun best (s : Nat) => if g.any (apart l (s : Int)) then best else better best (groupF l n r (g ++ [(s : Int)]))) g
theorem cloneOwn_c (l : List Int) (A : Option Addr) (c : Nat) (w : World) (hr : Rd w A (ints l)) (hl : l.length ≤ 100000) :
    Calls Try.prog 60 #[.slice A l.length c] w fun r w' => (∃ v', r = .returned v' ∧ w'.ownsRow w.heap.size 3 1 v' l.length (ints l)) ∧ Below w.heap.size w w' := by
  obtain ⟨i0, hi, iz0, iz1, iz2⟩ := info_parts Try.infoN
  cases A with
  | none =>
    have hz : l = [] := by
      cases l with
      | nil => rfl
      | cons x l => obtain ⟨_, _, e, _⟩ := hr (by simp [ints]); cases e
    subst hz
    have hq : ∀ W, (binOp .eql 47 (.slice none 0 c) (.slice none 0 0)).run Try.prog W = .ok (.bool true) W := fun W => eql_nil _ _ _ _ _ Try.underlying47 W
    simp only [List.length_nil]
    go_enter Try.func60, Try.ntmps60
    go_wp2
    go_ret
    exact ⟨⟨.slice none 0 0, rfl, World.ownsRow_nil _ _ _ _⟩, Below.refl _ _⟩
  | some a =>
    have hq : ∀ W, (binOp .eql 47 (.slice (some a) l.length c) (.slice none 0 0)).run Try.prog W = .ok (.bool false) W := fun W => eql_nil _ _ _ _ _ Try.underlying47 W
    go_enter Try.func60, Try.ntmps60
    go_wp2_with (first | (at_builtin; refine wpList_append_rd _ rfl _ _ 47 rfl w.heap.size 3 i0 (.int .i64 0) 1 8 Try.underlying47 hi iz0 iz1 iz2 rfl (by decide) (.slice (some ⟨w.heap.size, 0, none⟩) 0 0) 0 [] rfl (World.ownsRow_made w #[] 0 (Nat.le_refl _) (by unfold maxLen; omega) rfl) (some a) l.length c (ints l) rfl (by simp) (hr.alloc _) (ints_one l) (by unfold maxLen; omega) (by omega) (by simp) ?_; intro v' w1 hown1 hg1))
    have hb : Below w.heap.size w w1 := ((Below.refl _ _).alloc (Nat.le_refl _) (.cells #[] 3)).grown hg1 (by simp) (by simp [Value.ownBlock])
    go_ret
    exact ⟨⟨v', rfl, by simpa using hown1⟩, hb⟩
end Go.Proofs.Ytmdmkmfemhkfgaa
