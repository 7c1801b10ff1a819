/- A group of texts (tools/groups.txt): W1 W2 Iter Base2 W3 Corr W4 W5 W6. No condition but those that each says. -/
import Derived.Test.YtnigmdkhecblnaaDoorProg
import Derived.Test.YtnigmdkhecblnaaDoorMA
import Derived.RangeFuncOwn
import Derived.RangeFuncCalls
import Derived.RangeFuncLeaves
import Derived.RangeFuncBox
import Derived.RangeFuncFrom
import Derived.OwnWalkIn
import Derived.TacticsInMore
import Derived.LoopNIn
import Derived.LoopIn
import Derived.Shelf.Abstract
import Derived.Maps.AppendAt
set_option linter.unusedSimpArgs false
set_option linter.unusedVariables false
/- Contracts of the small checks of package code. -/
namespace Go.Proofs.YtnigmdkhecblnaaDoor
open Go.RowKit
set_option maxRecDepth 100000

theorem errorIf_c (b : Bool) (e : Int) (w : World) : Calls Tryd.prog 41 #[.bool b, .int .i64 e] w fun r w' => r = .returned (.int .i64 (errIf b e)) ∧ w = w' := by
  cases b <;> (
    go_enter Tryd.func41, Tryd.ntmps41
    go_wp2
    go_ret
    exact ⟨rfl, rfl⟩)

theorem outside_c (n lo hi : Int) (w : World) : Calls Tryd.prog 60 #[.int .i64 n, .int .i64 lo, .int .i64 hi] w fun r w' => r = .returned (.bool (outB n lo hi)) ∧ w = w' := by
  by_cases h1 : n < lo
  · go_enter Tryd.func60, Tryd.ntmps60
    go_wp2
    go_ret
    exact ⟨by simp [outB, h1], rfl⟩
  · go_enter Tryd.func60, Tryd.ntmps60
    go_wp2
    go_ret
    exact ⟨by simp [outB]; omega, rfl⟩

theorem firstError_c (l : List Int) (A : Option Addr) (c : Nat) (w : World) (hr : Rd w A (ints l)) (hl : l.length ≤ 1000) :
    Calls Tryd.prog 39 #[.slice A l.length c] w fun r w' => r = .returned (.int .i64 (firstE l)) ∧ w = w' := by
  go_enter Tryd.func39, Tryd.ntmps39
  go_wp2
  go_loop [4, 7] (fun e i => ∃ k : Nat, k ≤ l.length ∧ i = .int .i64 k ∧ Hid (firstE (l.take k) = 0)) (fun _ i => l.length - (intOf i).toNat)
  case atStart => exact ⟨0, Nat.zero_le _, rfl, rfl⟩
  case round =>
    obtain ⟨k, hk, rfl, h0⟩ := hrel
    by_cases hlt : k < l.length
    · obtain ⟨b, off, rfl, hb, hc0⟩ := hr.int_at hlt
      by_cases hz : l[k] = 0
      · have H1 : Hid (firstE (l.take (k + 1)) = 0) := (firstE_take_succ l k hlt h0.out).trans hz
        go_wp2
        go_round
        case rel => exact ⟨k + 1, by omega, by go_num, H1⟩
        case measure => simp [intOf]; omega
      · have H1 : Hid (firstE l = l[k]) := by
          have h2 := firstE_take_succ l k hlt h0.out
          exact (firstE_of_take l (k + 1) (by rw [h2]; exact hz)).trans h2
        go_wp2
        go_ret
        exact ⟨by rw [H1.out]; rfl, rfl⟩
    · have H1 : Hid (firstE l = 0) := by
        have := h0.out
        rwa [List.take_of_length_le (by omega)] at this
      go_wp2
      go_ret
      exact ⟨by rw [H1.out]; rfl, rfl⟩

/-- A call of firstError with errors that the call has just laid side by side. -/
theorem firstError_new (l : List Int) (xs : Array Value) (n : Nat) (hx : xs = (ints l).toArray) (hn : n = l.length) (hl : l.length ≤ 1000) (w : World) :
    Calls Tryd.prog 39 #[.slice (some ⟨w.heap.size, 0, none⟩) n n] (w.alloc (.cells xs 28)) fun r w' => r = .returned (.int .i64 (firstE l)) ∧ w.alloc (.cells xs 28) = w' := by
  subst hx hn
  refine firstError_c l _ _ _ ?_ hl
  intro _
  refine ⟨_, _, rfl, by simp, fun j u hu => ?_⟩
  rw [Nat.zero_add, cell_of_row _ _ j _ _ (0, 0) (heap_alloc_new w _)]
  simpa using hu
theorem firstError_2 (a b : Int) (w : World) : Calls Tryd.prog 39 #[.slice (some ⟨w.heap.size, 0, none⟩) 2 2] (w.alloc (.cells #[.int .i64 a, .int .i64 b] 28)) fun r w' => r = .returned (.int .i64 (firstE [a, b])) ∧ w.alloc (.cells #[.int .i64 a, .int .i64 b] 28) = w' :=
  firstError_new [a, b] _ _ rfl rfl (by simp) w
theorem firstError_3 (a b c : Int) (w : World) : Calls Tryd.prog 39 #[.slice (some ⟨w.heap.size, 0, none⟩) 3 3] (w.alloc (.cells #[.int .i64 a, .int .i64 b, .int .i64 c] 28)) fun r w' => r = .returned (.int .i64 (firstE [a, b, c])) ∧ w.alloc (.cells #[.int .i64 a, .int .i64 b, .int .i64 c] 28) = w' :=
  firstError_new [a, b, c] _ _ rfl rfl (by simp) w
theorem firstError_4 (a b c d : Int) (w : World) : Calls Tryd.prog 39 #[.slice (some ⟨w.heap.size, 0, none⟩) 4 4] (w.alloc (.cells #[.int .i64 a, .int .i64 b, .int .i64 c, .int .i64 d] 28)) fun r w' => r = .returned (.int .i64 (firstE [a, b, c, d])) ∧ w.alloc (.cells #[.int .i64 a, .int .i64 b, .int .i64 c, .int .i64 d] 28) = w' :=
  firstError_new [a, b, c, d] _ _ rfl rfl (by simp) w

theorem lengthError_c (n most : Int) (w : World) : Calls Tryd.prog 73 #[.int .i64 n, .int .i64 most] w fun r w' => r = .returned (.int .i64 (lenE n most)) ∧ Below w.heap.size w w' := by
  go_enter Tryd.func73, Tryd.ntmps73
  go_wp2_with (first | (go_at_call 41; refine (errorIf_c _ _ _).mono ?_; rintro e w' ⟨rfl, rfl⟩) | (go_at_call 39; refine (firstError_2 _ _ _).mono ?_; rintro e w' ⟨rfl, rfl⟩))
  go_ret
  exact ⟨rfl, (Below.refl _ _).alloc (Nat.le_refl _) _⟩

theorem checkCode1_c (k n : Int) (w : World) : Calls Tryd.prog 75 #[.int .i64 k, .int .i64 n] w fun r w' => r = .returned (.int .i64 (codeItem n)) ∧ w = w' := by
  by_cases h1 : n = 1
  · subst h1
    go_enter Tryd.func75, Tryd.ntmps75
    go_wp2_with (first | (go_at_call 41; refine (errorIf_c _ _ _).mono ?_; rintro e w' ⟨rfl, rfl⟩))
    go_ret
    exact ⟨rfl, rfl⟩
  · by_cases h2 : n = -1
    · subst h2
      go_enter Tryd.func75, Tryd.ntmps75
      go_wp2_with (first | (go_at_call 41; refine (errorIf_c _ _ _).mono ?_; rintro e w' ⟨rfl, rfl⟩))
      go_ret
      exact ⟨rfl, rfl⟩
    · have e1 : (n != 1) = true := by simpa using h1
      have e2 : (n != -1) = true := by simpa using h2
      have H : Hid (codeItem n = 2) := by show codeItem n = 2; simp [codeItem, h1, h2]
      clear h1 h2
      go_enter Tryd.func75, Tryd.ntmps75
      go_wp2_with (first | (go_at_call 41; refine (errorIf_c _ _ _).mono ?_; rintro e w' ⟨rfl, rfl⟩))
      go_ret
      exact ⟨by rw [H.out]; rfl, rfl⟩

/-- firstBad at numbers, with a check that answers by a plain function of the item and its index, and leaves what was there as it was. -/
theorem firstBadInt_c (chk : Nat → Int → Int) (f : FuncId) (l : List Int) (A : Option Addr) (c : Nat) (cap : Array Value) (w : World) (hr : Rd w A (ints l)) (hl : l.length ≤ 1000)
    (hE : ∀ (args : Array Value) (W : World), (callFunc f args).run Tryd.prog W = .ok (.enter f args) W)
    (hchk : ∀ (k : Nat) (h : k < l.length) (W : World), Below w.heap.size w W → Calls Tryd.prog f (#[.int .i64 k, .int .i64 l[k]] ++ cap) W fun r W' => r = .returned (.int .i64 (chk k l[k])) ∧ Below W.heap.size W W') :
    Calls Tryd.prog 67 #[.slice A l.length c, .func (.func f) #[] cap] w fun r w' => r = .returned (.tuple #[.int .i64 (firstBadFrom chk 0 l).1, .int .i64 (firstBadFrom chk 0 l).2]) ∧ Below w.heap.size w w' := by
  have HC := hide hchk
  clear hchk
  go_enter Tryd.func67, Tryd.ntmps67
  go_wp2
  go_loopw [11] (fun i wr => ∃ k : Nat, k ≤ l.length ∧ i = .int .i64 k ∧ Below w.heap.size w wr ∧ Hid (∀ j (h : j < l.length), j < k → chk j l[j] = 0)) (fun i _ => l.length - (intOf i).toNat)
  case atStart => exact ⟨0, Nat.zero_le _, rfl, Below.refl _ _, fun _ _ h => by omega⟩
  case round =>
    obtain ⟨k, hk, rfl, hb, h0⟩ := hrel
    by_cases hlt : k < l.length
    · obtain ⟨b, off, rfl, hblt, hc0⟩ := (hr.bel hb).int_at hlt
      by_cases hz : chk k l[k] = 0
      · have H1 : Hid (∀ j (h : j < l.length), j < k + 1 → chk j l[j] = 0) := fun j h hj => by
          by_cases e : j = k
          · subst e; exact hz
          · exact h0.out j h (by omega)
        go_wp2_with (refine (HC.out k hlt _ hb).mono ?_; rintro e w' ⟨rfl, hb1⟩)
        go_roundw
        case rel => exact ⟨k + 1, by omega, by go_num, tr hb hb1 hb.size, H1⟩
        case measure => simp [intOf]; omega
      · have H1 : Hid (firstBadFrom chk 0 l = ((k : Int), chk k l[k])) := by
          have := firstBadFrom_some chk l 0 k hlt (fun i hi => by simpa using h0.out i (by omega) hi) (by simpa using hz)
          show firstBadFrom chk 0 l = _; simpa using this
        go_wp2_with (refine (HC.out k hlt _ hb).mono ?_; rintro e w' ⟨rfl, hb1⟩)
        go_ret2
        exact ⟨by rw [H1.out]; rfl, tr hb hb1 hb.size⟩
    · have H1 : Hid (firstBadFrom chk 0 l = (0, 0)) := firstBadFrom_none chk l 0 fun i hi => by simpa using h0.out i hi (by omega)
      go_wp2
      go_ret2
      exact ⟨by rw [H1.out]; rfl, hb⟩
end Go.Proofs.YtnigmdkhecblnaaDoor

/- Contracts: codes, comparisons of slices, chirps. -/
namespace Go.Proofs.YtnigmdkhecblnaaDoor
open Go.RowKit
set_option maxRecDepth 100000

/-- A contract of a function that leaves the world as it was, as one of a closure without captured variables. -/
theorem closed_of {f : FuncId} {args : Array Value} {w : World} {v : Value} (h : Calls Tryd.prog f args w fun r w' => r = .returned v ∧ w = w') :
    Calls Tryd.prog f (args ++ #[]) w fun r w' => r = .returned v ∧ Below w.heap.size w w' := by
  rw [Array.append_empty]
  exact h.mono fun _ _ ⟨h1, h2⟩ => ⟨h1, by subst h2; exact Below.refl _ _⟩

theorem checkCode_c (l : List Int) (A : Option Addr) (c : Nat) (w : World) (hr : Rd w A (ints l)) (hl : l.length ≤ 1000) :
    Calls Tryd.prog 56 #[.slice A l.length c] w fun r w' => r = .returned (.int .i64 (codeE l)) ∧ Below w.heap.size w w' := by
  by_cases h0 : lenE l.length 32 = 0
  · have e1 : (lenE l.length 32 != 0) = false := by simpa using h0
    have H : Hid (codeE l = (firstBadFrom (fun _ n => codeItem n) 0 l).2) := by show codeE l = _; unfold codeE; rw [if_pos h0]
    clear h0
    go_enter Tryd.func56, Tryd.ntmps56
    go_wp2_with (first
      | (go_at_call 73; refine (lengthError_c _ _ _).mono ?_; rintro e w1 ⟨rfl, hb1⟩)
      | (go_at_call 67; refine (firstBadInt_c (fun _ n => codeItem n) _ l _ _ _ _ (hr.bel hb1) hl Tryd.call75 (fun k h W _ => closed_of (checkCode1_c _ _ _))).mono ?_; rintro e w2 ⟨rfl, hb2⟩))
    go_ret
    exact ⟨by rw [H.out]; rfl, tr hb1 hb2 hb1.size⟩
  · have e1 : (lenE l.length 32 != 0) = true := by simpa using h0
    have H : Hid (codeE l = lenE l.length 32) := by show codeE l = _; unfold codeE; rw [if_neg h0]
    clear h0
    go_enter Tryd.func56, Tryd.ntmps56
    go_wp2_with (first
      | (go_at_call 73; refine (lengthError_c _ _ _).mono ?_; rintro e w1 ⟨rfl, hb1⟩))
    go_ret
    exact ⟨by rw [H.out]; rfl, hb1⟩

theorem within_c (n lo hi : Int) (w : World) : Calls Tryd.prog 22 #[.int .i64 n, .int .i64 lo, .int .i64 hi] w fun r w' => r = .returned (.bool !(outB n lo hi)) ∧ w = w' := by
  by_cases h1 : n < lo
  · go_enter Tryd.func22, Tryd.ntmps22
    go_wp2
    go_ret
    exact ⟨ret_bool (by rw [Bool.eq_iff_iff]; simp [outB]; omega), rfl⟩
  · go_enter Tryd.func22, Tryd.ntmps22
    go_wp2
    go_ret
    exact ⟨ret_bool (by rw [Bool.eq_iff_iff]; simp [outB]; omega), rfl⟩

/-- The equality of two slices of numbers. -/
theorem ints_c (l m : List Int) (A B : Option Addr) (c d : Nat) (w : World) (hr : Rd w A (ints l)) (hs : Rd w B (ints m)) (hl : l.length ≤ 1000) :
    Calls Tryd.prog 17 #[.slice A l.length c, .slice B m.length d] w fun r w' => r = .returned (.bool (decide (l = m))) ∧ Below w.heap.size w w' := by
  by_cases hn : l.length = m.length
  · have e1 : ((l.length : Int) != (m.length : Int)) = false := by simp; omega
    have hm : m.length ≤ 1000 := by omega
    have HN := hide hn
    clear hn
    go_enter Tryd.func17, Tryd.ntmps17
    go_wp2
    go_loopw [5] (fun i wr => ∃ k : Nat, k ≤ l.length ∧ i = .int .i64 k ∧ Below w.heap.size w wr ∧ Hid (∀ j (h : j < l.length) (h' : j < m.length), j < k → l[j] = m[j])) (fun i _ => l.length - (intOf i).toNat)
    case atStart => exact ⟨0, Nat.zero_le _, rfl, Below.refl _ _, fun _ _ _ h => by omega⟩
    case round =>
      obtain ⟨k, hk, rfl, hb, h0⟩ := hrel
      by_cases hlt : k < l.length
      · have hlt' : k < m.length := by have := HN.out; omega
        obtain ⟨b, off, rfl, hblt, hc0⟩ := (hr.bel hb).int_at hlt
        obtain ⟨b', off', rfl, hblt', hc0'⟩ := (hs.bel hb).int_at hlt'
        by_cases hz : l[k] = m[k]
        · have e2 : (l[k] != m[k]) = false := by simpa using hz
          have H1 : Hid (∀ j (h : j < l.length) (h' : j < m.length), j < k + 1 → l[j] = m[j]) := fun j h h' hj => by
            by_cases e : j = k
            · subst e; exact hz
            · exact h0.out j h h' (by omega)
          clear hz
          go_wp2
          go_quiet (fail)
          go_wp2
          go_roundw
          case rel => exact ⟨k + 1, by omega, by go_num, below_drewN hb _, H1⟩
          case measure => simp [intOf]; omega
        · have e2 : (l[k] != m[k]) = true := by simpa using hz
          have H : Hid (decide (l = m) = false) := by show decide (l = m) = false; simp; rintro rfl; exact hz rfl
          clear hz
          go_wp2
          go_quiet (fail)
          go_wp2
          go_ret
          exact ⟨by rw [H.out]; rfl, below_drewN hb _⟩
      · have H : Hid (decide (l = m) = true) := by
          show decide (l = m) = true
          simp
          refine List.ext_getElem HN.out fun j h h' => h0.out j h h' (by omega)
        go_wp2
        go_ret
        exact ⟨by rw [H.out]; rfl, hb⟩
  · have H : Hid (decide (l = m) = false) := by show decide (l = m) = false; simp; rintro rfl; exact hn rfl
    have e1 : ((l.length : Int) != (m.length : Int)) = true := by simp; omega
    clear hn
    go_enter Tryd.func17, Tryd.ntmps17
    go_wp2
    go_ret
    exact ⟨by rw [H.out]; rfl, Below.refl _ _⟩

theorem checkChirp_c (s n d : Int) (w : World) : Calls Tryd.prog 59 #[.agg #[.int .i64 s, .int .i64 n, .int .i64 d]] w fun r w' => r = .returned (.int .i64 (chirpE s n d)) ∧ Below w.heap.size w w' := by
  have H : Hid (chirpE s n d = errIf (outB s 0 100000 || (outB n 0 1000 || outB d 1 1000)) 2) := by
    show chirpE s n d = _
    unfold chirpE errIf
    simp only [Bool.or_eq_true, outB_true]
    congr 1
    simp only [eq_iff_iff]
    omega
  generalize h1 : outB s 0 100000 = b1 at H
  generalize h2 : outB n 0 1000 = b2 at H
  generalize h3 : outB d 1 1000 = b3 at H
  cases b1 <;> cases b2 <;> cases b3 <;> (
    go_enter Tryd.func59, Tryd.ntmps59
    go_wp2_with (first | (go_at_call 60; refine (outside_c _ _ _ _).mono ?_; rintro e w' ⟨rfl, rfl⟩) | (go_at_call 41; refine (errorIf_c _ _ _).mono ?_; rintro e w' ⟨rfl, rfl⟩))
    go_ret
    exact ⟨by rw [H.out]; rfl, (Below.refl _ _).alloc (Nat.le_refl _) _⟩)

theorem frequency_c (s n d t : Int) (w : World) (h1 : 0 ≤ s) (h2 : s ≤ 100000) (h3 : 0 ≤ n) (h4 : n ≤ 1000) (h5 : 1 ≤ d) (h6 : d ≤ 1000) (h7 : 0 ≤ t) (h8 : t ≤ 1000000) :
    Calls Tryd.prog 61 #[.agg #[.int .i64 s, .int .i64 n, .int .i64 d], .int .i64 t] w fun r w' => r = .returned (.int .i64 (freq s n d t)) ∧ Below w.heap.size w w' := by
  have hp : t * n ≤ 1000000 * 1000 := Int.mul_le_mul h8 h4 h3 (by omega)
  have hp0 : 0 ≤ t * n := Int.mul_nonneg h7 h3
  have hq0 : 0 ≤ t * n / d := Int.ediv_nonneg hp0 (by omega)
  have hq : t * n / d ≤ t * n := Int.ediv_le_self _ hp0
  go_enter Tryd.func61, Tryd.ntmps61
  have e1 : (d == 0) = false := by simp; omega
  go_wp2
  go_quiet (fail)
  go_wp2
  go_ret
  exact ⟨rfl, below_drewN ((Below.refl _ _).alloc (Nat.le_refl _) _) _⟩
end Go.Proofs.YtnigmdkhecblnaaDoor

/- A loop over a function (range-over-func) of this seat: an iterator that hands out known things one by one, a body that never leaves early. Plain laws over any program; no condition. -/
namespace Go.Proofs.YtnigmdkhecblnaaDoor
open Go.RowKit

/-- The blocks of S lie as they lay; the streams are as they were; no block has gone. -/
structure Keep (S : Nat → Prop) (w w' : World) : Prop where
  os : w'.os = w.os
  tape : w'.tape = w.tape
  output : w'.output = w.output
  size : w.heap.size ≤ w'.heap.size
  block : ∀ k, S k → w'.heap[k]? = w.heap[k]?

section
variable {S : Nat → Prop} {a b c : World}
theorem Keep.refl (S : Nat → Prop) (w : World) : Keep S w w := ⟨rfl, rfl, rfl, Nat.le_refl _, fun _ _ => rfl⟩
theorem Keep.trans (h : Keep S a b) (k : Keep S b c) : Keep S a c :=
  ⟨k.os.trans h.os, k.tape.trans h.tape, k.output.trans h.output, Nat.le_trans h.size k.size, fun i hi => (k.block i hi).trans (h.block i hi)⟩
theorem Keep.of_below {B : Nat} (h : Below B a b) (hS : ∀ k, S k → k < B) : Keep S a b := ⟨h.os, h.tape, h.output, h.size, fun k hk => h.block k (hS k hk)⟩
theorem Keep.putObj (w : World) (l : Nat) (o : Obj) (hl : ¬ S l) : Keep S w (w.putObj l o) :=
  ⟨rfl, rfl, rfl, by simp, fun k hk => World.putObj_heap_other (fun e => hl (e ▸ hk))⟩
theorem Keep.setCell (w : World) (p : Addr) (u : Value) (hl : ¬ S p.block) : Keep S w (w.setCell p u) :=
  ⟨rfl, rfl, rfl, by simp [World.setCell], fun k hk => Below.heap_setCell _ _ _ _ (fun e => hl (e ▸ hk))⟩
theorem Keep.grown {row : Option Nat} (h : a.grownBy b row) (hS : ∀ k, S k → k < a.heap.size) (hr : ∀ k, row = some k → ¬ S k) : Keep S a b :=
  ⟨h.os, h.tape, h.output, h.size, fun k hk => h.block k (hS k hk) (fun e => hr k e.symm hk)⟩
theorem Keep.cell (h : Keep S a b) {p : Addr} (hp : S p.block) : b.cell? p = a.cell? p := World.cell?_of_block (h.block p.block hp)
end

theorem others_of_below {a b : World} (h : Below a.heap.size a b) : KeepsOthers a b := ⟨h.size, fun k _ hk _ => (h.block k (Array.getElem?_eq_some_iff.1 hk).1).trans hk⟩

/-- What holds goes on holding when new blocks are laid. -/
def Stable (J : World → Prop) : Prop := ∀ W W', J W → Below W.heap.size W W' → J W'
/-- What holds goes on holding when a block that is no cells, from B on, is turned. -/
def Deaf (B : Nat) (J : World → Prop) : Prop := ∀ W l o o', J W → B ≤ l → W.heap[l]? = some o → o.isCells = false → J (W.putObj l o')

theorem Rd.putObj {w : World} {A : Option Addr} {xs : List Value} (h : Rd w A xs) {l : Nat} {o : Obj} (o' : Obj) (hl : w.heap[l]? = some o) (ho : o.isCells = false) : Rd (w.putObj l o') A xs := by
  intro hx
  obtain ⟨b, off, rfl, hlt, hc⟩ := h hx
  refine ⟨b, off, rfl, by simpa using hlt, fun j u hu => ?_⟩
  have hcell := hc j u hu
  refine (World.cell?_of_block (World.putObj_heap_other ?_)).trans hcell
  rintro e
  obtain ⟨o2, h2, h3⟩ := cells_of_cell hcell
  dsimp only at e h2
  rw [e, hl] at h2
  cases h2
  rw [ho] at h3
  cases h3

/-- The iterator gf with what it has captured hands out xs one by one, each by arguments that V allows; it leans on the blocks of S alone. -/
def Iter {α : Type} (P : Program) (n gf : Nat) (lb : Array Value) (V : α → Array Value → World → Prop) (xs : List α) (S : Nat → Prop) (w : World) : Prop :=
  ∀ (l : Nat) (J : List α → World → Prop) (W : World), Keep S w W → (∀ pre, Stable (J pre)) →
    (∀ pre x rest W1 args, xs = pre ++ x :: rest → J pre W1 → V x args W1 → YieldAt Fence.wide (n - 1) P l args W1 fun e W' => e = .returned (.bool true) ∧ J (pre ++ [x]) W' ∧ Keep S W1 W') →
    J [] W → CallsIn Fence.wide n P gf (#[.func (.yield l) #[] #[]] ++ lb) W fun e W' => (∃ v, e = .returned v) ∧ J xs W'

/-- How the body of a round may be left. -/
def endsRound {α : Type} (S : Nat → Prop) (I : List α → World → Prop) (pre : List α) (W : World) : Exit → Act → World → Prop
  | .normal, _, W' => KeepsOthers W W' ∧ Keep S W W' ∧ I pre W'
  | _, _, _ => False

/-- THE STATEMENT 'for .. := range g { .. }', its body never leaving early, in a function that runs in no round. -/
theorem range_law {α : Type} {P : Program} {n : Nat} {g : Operand} {ps : Array Tmp} {assign body : Code} {Q : Exit → Act → World → Prop} {a : Act} {w : World}
    {gf : Nat} {lb : Array Value} (hg : a.eval g = .func (.func gf) #[] lb) (eg : ∀ args w, (callFunc gf args).run P w = .ok (.enter gf args) w)
    {V : α → Array Value → World → Prop} {xs : List α} {S : Nat → Prop} (hseq : Iter P (n - 1) gf lb V xs S w) (hS : ∀ k, S k → k < w.heap.size)
    (hps : ∀ x args W, V x args W → args.size = ps.size) (hV : ∀ x args, Deaf w.heap.size (V x args))
    (I : List α → World → Prop) (hI : ∀ pre, Stable (I pre)) (hI' : ∀ pre, Deaf w.heap.size (I pre)) (h0 : I [] w) (a₁ : Array Value → Act)
    (hassign : ∀ (l : Nat) (x : α) (args : Array Value) (W : World) (K : Act → World → Prop), V x args W → K (a₁ args) W →
      assign.wpIn (Fence.wide.inRound l) (n - 1 - 1) P (Exit.then K (fun _ _ _ => False)) { tmps := (ps.zip args).foldl (fun t (p, v) => t.setIfInBounds p v) a.tmps, defers := [] } W)
    (hbody : ∀ (l : Nat) (pre : List α) (x : α) (rest : List α) (args : Array Value) (W : World), xs = pre ++ x :: rest → I pre W → V x args W → w.heap.size ≤ W.heap.size →
      body.wpIn (Fence.wide.inRound l) (n - 1 - 1) P (endsRound S I (pre ++ [x]) W) (a₁ args) W)
    (hdone : ∀ (D : Nat) (W : World), w.heap.size ≤ D → I xs W → W.heap[D]? = some (.deferred (some [])) → Q .normal { a with defers := { target := .collected D, args := #[] } :: a.defers } W) :
    (Code.rangeFunc g ps assign body).wpIn Fence.wide n P Q a w := by
  refine wpIn_rangeFunc fun fn _ => ?_
  obtain ⟨rec, hrec⟩ : ∃ rec : LoopState → Loop, rec = fun st => { state := st, pending := none, fn, tmps := a.tmps, params := ps, assign, body, defers := w.heap.size } := ⟨_, rfl⟩
  obtain ⟨W1, hW1⟩ : ∃ W1, (w.alloc (.deferred (some []))).alloc (.loop (rec .ready)) = W1 := ⟨_, rfl⟩
  have hbel : Below w.heap.size w W1 := by rw [← hW1]; exact ((Below.refl _ w).alloc (Nat.le_refl _) _).alloc (by simp) _
  have hD1 : W1.heap[w.heap.size]? = some (.deferred (some [])) := by
    rw [← hW1]; exact (Below.heap_alloc _ _ _ (by simp)).trans (World.alloc_heap_new w _)
  have hL1 : W1.heap[w.heap.size + 1]? = some (.loop (rec .ready)) := by
    rw [← hW1]; have := World.alloc_heap_new (w.alloc (.deferred (some []))) (.loop (rec .ready)); rwa [World.size_alloc] at this
  refine ⟨w.heap.size + 1, [{ target := .collected w.heap.size, args := #[] }], W1, { target := .fn (.func gf) lb, args := #[.func (.yield (w.heap.size + 1)) #[] #[]] }, W1, gf,
    #[.func (.yield (w.heap.size + 1)) #[] #[]] ++ lb, W1, ?_, ?_, fun _ _ => trivial, ?_, fun h => (by cases h), ?_⟩
  · rw [← hW1, hrec]; exact run_enterLoop_outer _ _ _ _ _
  · simp only [resolve, hg]
    simp [go_sem]
  · simp [invoke, go_sem, eg]
  · have hrun := hseq (w.heap.size + 1)
      (fun pre W => (I pre W ∧ w.heap.size + 1 < W.heap.size) ∧ W.heap[w.heap.size + 1]? = some (.loop (rec .ready)) ∧ W.heap[w.heap.size]? = some (.deferred (some [])))
      W1 (Keep.of_below hbel hS)
      (fun pre W W' ⟨⟨h1, h2⟩, h3, h4⟩ hb => ⟨⟨hI pre W W' h1 hb, Nat.lt_of_lt_of_le h2 hb.size⟩, (hb.block _ h2).trans h3, (hb.block _ (by omega)).trans h4⟩)
      ?_ ⟨⟨hI _ _ _ h0 hbel, (Array.getElem?_eq_some_iff.1 hL1).1⟩, hL1, hD1⟩
    · refine hrun.mono ?_
      rintro e W2 ⟨⟨v, rfl⟩, ⟨hi, _⟩, hl, hd⟩
      have he := run_endLoop (P := P) hl (by rw [hrec]; simp)
      rw [hrec] at he hl
      exact ⟨none, _, he, hdone _ _ (Nat.le_refl _) (hI' _ _ _ _ _ hi (by omega) hl rfl) ((World.putObj_heap_other (by omega)).trans hd)⟩
    · rintro pre x rest W args hxs ⟨⟨hi, hlt⟩, hl, hd⟩ hv
      have hy := run_yield (P := P) (args := args) hl (by rw [hrec]; exact hps x args W hv)
      rw [hrec] at hy
      have hbusy : ∃ W3, W.putObj (w.heap.size + 1) (.loop { rec .ready with state := .busy }) = W3 := ⟨_, rfl⟩
      obtain ⟨W3, hW3⟩ := hbusy
      have hnS : ¬ S (w.heap.size + 1) := fun h => by have := hS _ h; omega
      have hk3 : Keep S W W3 := by rw [← hW3]; exact Keep.putObj _ _ _ hnS
      have hi3 : I pre W3 := by rw [← hW3]; exact hI' _ _ _ _ _ hi (by omega) hl rfl
      have hv3 : V x args W3 := by rw [← hW3]; exact hV _ _ _ _ _ _ hv (by omega) hl rfl
      have hl3 : W3.heap[w.heap.size + 1]? = some (.loop { rec .ready with state := .busy }) := by rw [← hW3]; exact World.putObj_heap_same hlt
      have hd3 : W3.heap[w.heap.size]? = some (.deferred (some [])) := by rw [← hW3]; exact (World.putObj_heap_other (by omega)).trans hd
      have hsz : w.heap.size ≤ W3.heap.size := by rw [← hW3]; simp; omega
      refine ⟨fn, _, assign, body, hy, roundIn_of_wpIn trivial (hassign _ x args W _ hv ⟨W3, by rw [← hW3]; exact run_beginRound hl (by rw [hrec]), ?_⟩)⟩
      refine wpIn_mono (hbody _ pre x rest args W3 hxs hi3 hv3 hsz) ?_
      rintro e a4 W4 hp
      cases e with
      | normal =>
        obtain ⟨ho, hk, hi4⟩ := hp
        have hl4 := ho.same _ _ hl3 rfl
        have hd4 := ho.same _ _ hd3 rfl
        have he := run_endRound (P := P) none hl4
        have hrr : ({ ({ rec .ready with state := .busy } : Loop) with state := .ready, pending := none } : Loop) = rec .ready := by rw [hrec]
        simp only [Option.isNone_none, if_true, hrr] at he
        have hl4' : w.heap.size + 1 < W4.heap.size := (Array.getElem?_eq_some_iff.1 hl4).1
        exact ⟨_, _, he, rfl, ⟨⟨hI' _ _ _ _ _ hi4 (by omega) hl4 rfl, by simpa using hl4'⟩, World.putObj_heap_same hl4', (World.putObj_heap_other (by omega)).trans hd4⟩,
          hk3.trans (hk.trans (Keep.putObj _ _ _ hnS))⟩
      | ret => exact hp.elim
      | exit id => exact hp.elim
      | goto t => exact hp.elim
      | panic ch => exact hp.elim
      | outgrown => exact hp.elim
end Go.Proofs.YtnigmdkhecblnaaDoor

/- Words for memory, more: a slice that lies in a block of a known element type. Plain lemmas; no condition. -/
namespace Go.Proofs.YtnigmdkhecblnaaDoor
open Go.RowKit

/-- A slice that reads as these cells, and lies in a block of the element type t. -/
def RdT (w : World) (t : TypeId) (A : Option Addr) (xs : List Value) : Prop := Rd w A xs ∧ ∀ b off, A = some ⟨b, off, none⟩ → ∃ cs fr, w.heap[b]? = some (.cells cs t fr)

/-- All blocks of the element type t lie as they lay. -/
def KeepT (t : TypeId) (w w' : World) : Prop := w.heap.size ≤ w'.heap.size ∧ ∀ (b : Nat) (cs : Array Value) (fr : Nat × Nat), w.heap[b]? = some (Obj.cells cs t fr) → w'.heap[b]? = some (Obj.cells cs t fr)

section
variable {w w' w1 : World} {t e : TypeId} {A : Option Addr} {xs : List Value}
theorem KeepT.refl (t : TypeId) (w : World) : KeepT t w w := ⟨Nat.le_refl _, fun _ _ _ h => h⟩
theorem KeepT.trans (h : KeepT t w w') (k : KeepT t w' w1) : KeepT t w w1 := ⟨Nat.le_trans h.1 k.1, fun b cs fr hb => k.2 b cs fr (h.2 b cs fr hb)⟩
theorem KeepT.bel (hb : Below w.heap.size w w') : KeepT t w w' := ⟨hb.size, fun b _ _ h => (hb.block b (Array.getElem?_eq_some_iff.1 h).1).trans h⟩
theorem KeepT.grown {row : Option Nat} (hg : w.grownBy w' row) (hr : ∀ k, row = some k → ∃ cs fr, w.heap[k]? = some (.cells cs e fr)) (hte : t ≠ e) : KeepT t w w' :=
  ⟨hg.size, fun b cs fr h => (hg.block b (Array.getElem?_eq_some_iff.1 h).1 (fun he => by
    obtain ⟨cs', fr', h'⟩ := hr b he.symm
    rw [h] at h'
    injection h' with h'
    injection h' with _ h'
    exact hte h')).trans h⟩
theorem KeepT.setCell {B : Nat} {cs : Array Value} {fr : Nat × Nat} (hB : w.heap[B]? = some (.cells cs e fr)) (hte : t ≠ e) (i : Nat) (u : Value) : KeepT t w (w.setCell ⟨B, i, none⟩ u) :=
  ⟨by simp [World.setCell], fun b cs' fr' h => (Below.heap_setCell _ _ _ _ (fun he => by
    dsimp only at he
    subst he
    rw [h] at hB
    injection hB with hB
    injection hB with _ hB
    exact hte hB)).trans h⟩
theorem KeepT.putObj {l : Nat} {o : Obj} (o' : Obj) (hl : w.heap[l]? = some o) (ho : o.isCells = false) : KeepT t w (w.putObj l o') :=
  ⟨by simp, fun b cs fr h => (World.putObj_heap_other (fun he => by subst he; rw [h] at hl; cases hl; cases ho)).trans h⟩

theorem RdT.keep (h : RdT w t A xs) (hk : KeepT t w w') : RdT w' t A xs := by
  refine ⟨fun hx => ?_, fun b off hA => ?_⟩
  · obtain ⟨b, off, rfl, hlt, hc⟩ := h.1 hx
    obtain ⟨cs, fr, hb⟩ := h.2 b off rfl
    exact ⟨b, off, rfl, Nat.lt_of_lt_of_le hlt hk.1, fun j u hu => (World.cell?_of_block (w := w) (w' := w') (a := ⟨b, off + j, none⟩) ((hk.2 b cs fr hb).trans hb.symm)).trans (hc j u hu)⟩
  · obtain ⟨cs, fr, hb⟩ := h.2 b off hA
    exact ⟨cs, fr, hk.2 b cs fr hb⟩
theorem RdT.bel (h : RdT w t A xs) (hb : Below w.heap.size w w') : RdT w' t A xs := h.keep (KeepT.bel hb)
theorem RdT.putObj (h : RdT w t A xs) {l : Nat} {o : Obj} (o' : Obj) (hl : w.heap[l]? = some o) (ho : o.isCells = false) : RdT (w.putObj l o') t A xs := h.keep (KeepT.putObj o' hl ho)
theorem Blk.rdT {g : Nat} {cs : List Value} (h : Blk w g t cs) {xs : List Value} (hx : xs <+: cs) : RdT w t (some ⟨g, 0, none⟩) xs :=
  ⟨h.rd hx, fun b off hA => by injection hA with hA; injection hA with h1; subst h1; exact ⟨_, _, h⟩⟩
end

/-- make([]T, n) as an equation over every world. -/
theorem run_make_rowN {P : Program} (t e : TypeId) (i : TypeInfo) (z : Value) (ht : P.underlying t = some (.slice e)) (hi : P.info? e = some i) (hz : i.zero = some z)
    (kl kc : IntKind) (n c : Nat) (hnc : n ≤ c) (hbytes : i.bytes * c ≤ 281474976710656) (h63 : c ≤ 9223372036854775807) (w : World) :
    (Instr.makeSlice t (.int kl (n : Int)) (.int kc (c : Int))).run P w = .ok (.slice (some ⟨w.heap.size, 0, none⟩) n c) (w.alloc (.cells (madeCells z.cells (c * i.size)) e)) := by
  have hb : (i.bytes : Int) * (c : Int) ≤ 281474976710656 := by
    have h : ((i.bytes * c : Nat) : Int) ≤ 281474976710656 := by omega
    rwa [Int.natCast_mul] at h
  have hr := run_make (P := P) w t e i z ht hi hz kl kc n c (by omega) (by omega) hb (by omega)
  simp only [Int.toNat_natCast] at hr
  exact hr

/-- One element of two cells in a block that is known whole. -/
theorem Blk.g_at {w : World} {b : Nat} {t : TypeId} {l : List (Int × Int)} (h : Blk w b t (gs l)) {k : Nat} {g : Int × Int} (hk : l[k]? = some g) :
    w.cell? ⟨b, k * 2, none⟩ = some (.int .i64 g.1) ∧ w.cell? ⟨b, k * 2 + 1, none⟩ = some (.int .i64 g.2) := by
  obtain ⟨hlt, rfl⟩ := List.getElem?_eq_some_iff.1 hk
  obtain ⟨h1, h2⟩ := gs_at hlt
  exact ⟨(h.cell _).trans h1, (h.cell _).trans h2⟩
theorem gs_set {l : List (Int × Int)} {k : Nat} (hk : k < l.length) (g : Int × Int) : ((gs l).set (k * 2) (.int .i64 g.1)).set (k * 2 + 1) (.int .i64 g.2) = gs (l.set k g) := by
  induction l generalizing k with
  | nil => simp at hk
  | cons a l ih =>
    cases k with
    | zero => rfl
    | succ k =>
      rw [gs_cons, List.set_cons_succ, gs_cons, ← ih (by simpa using hk), show (k + 1) * 2 = k * 2 + 1 + 1 from by omega, show k * 2 + 1 + 1 + 1 = (k * 2 + 1) + 1 + 1 from by omega]
      rfl
theorem Blk.setG {w : World} {b : Nat} {t : TypeId} {l : List (Int × Int)} (h : Blk w b t (gs l)) {k : Nat} {g : Int × Int} (hk : k < l.length) :
    Blk ((w.setCell ⟨b, k * 2, none⟩ (.int .i64 g.1)).setCell ⟨b, k * 2 + 1, none⟩ (.int .i64 g.2)) b t (gs (l.set k g)) := by
  rw [← gs_set hk]
  exact (h.set_ _ _).set_ _ _

/-- 'x = append(x, ..)', x a variable in a box of the call's own: all that the walk owes behind it. -/
theorem box_append {S : Nat → Prop} {W w1 : World} {n₀ B : Nat} {t e : TypeId} {size : Nat} {v v' : Value} {k m : Nat} {xs ys : List Value} {tmp : Obj}
    (hv : Boxed W B t v) (hte : t ≠ e) (hrow : W.ownsRow n₀ e size v k xs) (hown' : w1.ownsRow n₀ e size v' m ys) (hgrow : (W.alloc tmp).grownBy w1 v.ownBlock)
    (hS : ∀ k, S k → k < n₀ ∧ k ≠ B) (hn : n₀ ≤ W.heap.size) :
    Boxed w1 B t v ∧ Boxed (w1.setCell ⟨B, 0, none⟩ v') B t v' ∧ (w1.setCell ⟨B, 0, none⟩ v').ownsRow n₀ e size v' m ys ∧ KeepsOthers W (w1.setCell ⟨B, 0, none⟩ v') ∧ Keep S W (w1.setCell ⟨B, 0, none⟩ v') ∧
      ∀ t', t' ≠ t → t' ≠ e → KeepT t' W (w1.setCell ⟨B, 0, none⟩ v') := by
  have hv1 : Boxed w1 B t v := (hv.alloc tmp).kept hgrow (hv.not_row hte hrow)
  have hrw : ∀ j, v.ownBlock = some j → n₀ ≤ j ∧ ∃ cs fr, (W.alloc tmp).heap[j]? = some (.cells cs e fr) := fun j ej => by
    rcases (hrow.alloc tmp).2 with ⟨rfl, _⟩ | ⟨g, cap, cur, rfl, hb, hgb, _⟩
    · simp [Value.ownBlock] at ej
    · obtain rfl : g = j := by simpa [Value.ownBlock] using ej
      exact ⟨hb, _, _, hgb⟩
  refine ⟨hv1, hv1.set v', hown'.kept (grownBy_setCell' w1 B v') (.inr (hv1.not_row hte hown').symm), ?_, ?_, fun t' h1 h2 => ?_⟩
  · refine ((KeepsOthers.alloc W tmp).trans (KeepsOthers.of_grownBy hgrow fun j o ej hj => ?_)).trans (KeepsOthers.setCell _ _ _)
    obtain ⟨_, cs, fr, h3⟩ := hrw j ej
    rw [h3] at hj; cases hj; rfl
  · refine ((Keep.of_below ((Below.refl _ W).alloc (Nat.le_refl _) tmp) fun k hk => by have := (hS k hk).1; omega).trans
      (Keep.grown hgrow (fun k hk => by have := (hS k hk).1; simp; omega) fun j ej hj => ?_)).trans (Keep.setCell _ _ _ fun hk => (hS _ hk).2 rfl)
    have h3 := (hrw j ej).1
    have h4 := (hS j hj).1
    omega
  · exact ((KeepT.bel ((Below.refl _ W).alloc (Nat.le_refl _) tmp)).trans (KeepT.grown hgrow (fun k hk => (hrw k hk).2) h2)).trans (KeepT.setCell hv1 h1 0 v')

theorem ownsRow_slice {W : World} {base : Nat} {e : TypeId} {size n : Nat} {v : Value} {xs : List Value} (h : W.ownsRow base e size v n xs) : ∃ A c, v = .slice A n c := by
  rcases h.2 with ⟨rfl, rfl⟩ | ⟨g, cap, cur, rfl, _⟩
  · exact ⟨none, 0, rfl⟩
  · exact ⟨_, _, rfl⟩
theorem ownsRow_bel {W W' : World} {base : Nat} {e : TypeId} {size n : Nat} {v : Value} {xs : List Value} (h : W.ownsRow base e size v n xs) (hb : Below W.heap.size W W') : W'.ownsRow base e size v n xs :=
  h.kept (row := none) ⟨hb.os, hb.tape, hb.output, hb.size, fun k hk _ => hb.block k hk⟩ (by cases v.ownBlock <;> simp)
theorem boxed_bel {W W' : World} {B : Nat} {t : TypeId} {v : Value} (h : Boxed W B t v) (hb : Below W.heap.size W W') : Boxed W' B t v := (hb.block B h.lt).trans h
theorem boxed_putObj {W : World} {B : Nat} {t : TypeId} {v : Value} (h : Boxed W B t v) {l : Nat} {o : Obj} (o' : Obj) (hl : W.heap[l]? = some o) (ho : o.isCells = false) : Boxed (W.putObj l o') B t v := by
  refine (World.putObj_heap_other ?_).trans h
  rintro rfl
  rw [show W.heap[B]? = _ from h] at hl
  cases hl
  cases ho
end Go.Proofs.YtnigmdkhecblnaaDoor

/- Contracts: codes of a number of bits. -/
namespace Go.Proofs.YtnigmdkhecblnaaDoor
open Go.RowKit
set_option maxRecDepth 100000

/-- One number of the code of some bits. -/
def bitAt (bits len i : Nat) : Int := 2 * ((bits / 2 ^ (len - 1 - i) % 2 : Nat) : Int) - 1
/-- The code of a number of bits. -/
def codeL (bits len : Nat) : List Int := (List.range len).map (bitAt bits len)
theorem codeL_length (bits len : Nat) : (codeL bits len).length = len := by simp [codeL]

theorem Tryd.info3 : (Tryd.prog.info? 3).map (fun i => (i.zero, i.size, i.bytes)) = some (some (.int .i64 0), 1, 8) := by kernel_rfl

theorem bitVal (bits len k : Nat) (hb : bits < 2 ^ 32) : wrap64 (wrap64 (2 * Go.bits .and .i64 ((bits : Int) / 2 ^ (len - 1 - k)) 1) - 1) = bitAt bits len k := by
  have e : ((bits : Int) / 2 ^ (len - 1 - k)) = ((bits / 2 ^ (len - 1 - k) : Nat) : Int) := by simp
  have hlt : bits / 2 ^ (len - 1 - k) ≤ bits := Nat.div_le_self _ _
  rw [e, i64_and_one _ (by omega)]
  have h2 : bits / 2 ^ (len - 1 - k) % 2 < 2 := Nat.mod_lt _ (by omega)
  unfold bitAt
  have e1 : wrap64 (2 * ((bits / 2 ^ (len - 1 - k) % 2 : Nat) : Int)) = 2 * ((bits / 2 ^ (len - 1 - k) % 2 : Nat) : Int) := wrap64_id (by omega) (by omega)
  rw [e1, wrap64_id (by omega) (by omega)]

theorem ints_set_next (f : Nat → Int) (len k : Nat) (hk : k < len) :
    (ints ((List.range k).map f ++ List.replicate (len - k) 0)).set k (.int .i64 (f k)) = ints ((List.range (k + 1)).map f ++ List.replicate (len - (k + 1)) 0) := by
  have e : len - k = (len - (k + 1)) + 1 := by omega
  rw [e, List.replicate_succ, List.range_succ]
  simp [ints]

theorem codeOf_c (bits len : Nat) (hl : len ≤ 32) (hb : bits < 2 ^ 32) (w : World) :
    Calls Tryd.prog 77 #[.int .i64 bits, .int .i64 len] w fun r w' => ∃ A c, r = .returned (.slice A len c) ∧ RdT w' 3 A (ints (codeL bits len)) ∧ Below w.heap.size w w' := by
  obtain ⟨i0, hi, hz0, hz1, hz2⟩ := info_parts Tryd.info3
  go_enter Tryd.func77, Tryd.ntmps77
  go_wp2_with (first | (at_make; refine wpList_make_full _ rfl _ _ 23 rfl w.heap.size 3 i0 _ 1 Tryd.underlying23 hi hz0 hz1 _ _ _ _ len rfl rfl rfl rfl (by rw [hz2]; omega) (by simp only [maxLen]; omega) (by simp) ?_; intro w1 hown1 hg1))
  have hB1 : Blk w1 w.heap.size 3 (ints (List.replicate len 0)) := by
    have := Blk.of_own hown1
    rw [show (Value.int .i64 0).cells = #[.int .i64 0] from rfl] at this
    have e := madeCells_one (.int .i64 0) rfl len
    rw [show (Value.int .i64 0).cells = #[.int .i64 0] from rfl] at e
    rw [e] at this
    simpa [ints] using this
  have hbel1 : Below w.heap.size w w1 := (Below.refl _ _).grown hg1 (Nat.le_refl _) (by simp)
  clear hown1 hg1
  go_loopw [10] (fun i wr => ∃ k : Nat, k ≤ len ∧ i = .int .i64 k ∧ Below w.heap.size w wr ∧ Blk wr w.heap.size 3 (ints ((List.range k).map (bitAt bits len) ++ List.replicate (len - k) 0))) (fun i _ => len - (intOf i).toNat)
  case atStart => exact ⟨0, Nat.zero_le _, rfl, hbel1, hB1⟩
  case round =>
    obtain ⟨k, hk, rfl, hbel, hB⟩ := hrel
    by_cases hlt : k < len
    · have hc0 := hB.cell k
      have hf0 := hB.frozen k
      have hv := bitVal bits len k hb
      have hcell : wr.cell? ⟨w.heap.size, k, none⟩ = some (.int .i64 0) := by
        rw [hc0]
        simp [ints, show 0 < len - k from by omega]
      clear hc0
      go_wp2
      go_roundw
      case rel => exact ⟨k + 1, by omega, by go_num, hbel.setCell (Nat.le_refl _) _, by
        have := hB.set_ k (.int .i64 (bitAt bits len k))
        rwa [ints_set_next _ _ _ hlt] at this⟩
      case measure => simp [intOf]; omega
    · obtain rfl : k = len := by omega
      go_wp2
      go_ret
      refine ⟨_, _, rfl, ?_, hbel⟩
      rw [Nat.sub_self] at hB
      exact hB.rdT (by simp [codeL, ints])

theorem codesOf_c (n : Int) (w : World) :
    Calls Tryd.prog 57 #[.int .i64 n] w fun r w' => r = .returned (.func (.func 76) #[] #[.pointer (some ⟨w.heap.size, 0, none⟩)]) ∧ w.alloc (.cells #[.int .i64 n] 3) = w' := by
  go_enter Tryd.func57, Tryd.ntmps57
  go_wp2
  go_ret
  exact ⟨rfl, rfl⟩

/-- The arguments are a slice that reads as the code of these bits. -/
def IsCode (len : Nat) (bits : Nat) (args : Array Value) (W : World) : Prop := ∃ A c, args = #[.slice A len c] ∧ RdT W 3 A (ints (codeL bits len))

theorem range_split {k N : Nat} (h : k < N) : ∃ rest, List.range N = List.range k ++ k :: rest := by
  refine ⟨(List.range N).drop (k + 1), ?_⟩
  have h1 := List.take_append_drop k (List.range N)
  rw [List.take_range, Nat.min_eq_left (by omega), List.drop_eq_getElem_cons (by simpa using h), List.getElem_range] at h1
  exact h1.symm

theorem codes_iter (n len Bn : Nat) (hn : 1 ≤ n) (hl : len ≤ 10) (S : Nat → Prop) (hS : S Bn) (w : World) (hc : w.cell? ⟨Bn, 0, none⟩ = some (.int .i64 len)) :
    Iter Tryd.prog n 76 #[.pointer (some ⟨Bn, 0, none⟩)] (IsCode len) (List.range (2 ^ len)) S w := by
  intro l J W hk hJ hY h0
  have hcW : W.cell? ⟨Bn, 0, none⟩ = some (.int .i64 len) := (hk.cell (p := ⟨Bn, 0, none⟩) hS).trans hc
  obtain ⟨N, hN, hw2, hN2⟩ : ∃ N : Nat, Hid (2 ^ len = N) ∧ wrap64 ((2 : Int) ^ len) = (N : Int) ∧ N ≤ 1024 := by
    have h2 : 2 ^ len ≤ 2 ^ 10 := Nat.pow_le_pow_right (by omega) hl
    refine ⟨2 ^ len, rfl, ?_, h2⟩
    have e : ((2 ^ len : Nat) : Int) = (2 : Int) ^ len := by simp
    rw [← e]
    generalize 2 ^ len = M at h2
    exact wrap64_id (by omega) (by omega)
  rw [hN.out] at hY ⊢
  have HY := hide hY
  clear hY hc
  refine callsIn_of_wp Tryd.func76 rfl trivial ?_ rfl
  simp only [Tryd.ntmps76, List.size_toArray, List.length_cons, List.length_nil, Nat.reduceAdd, Nat.reduceSub, Array.replicate_succ, Array.replicate_zero, List.push_toArray, List.append_toArray, List.nil_append, List.cons_append]
  gi_wp2
  rw [hw2]
  clear hw2
  gi_loopw [8] (fun i wr => ∃ k : Nat, k ≤ N ∧ i = .int .i64 k ∧ wr.cell? ⟨Bn, 0, none⟩ = some (.int .i64 len) ∧ J (List.range k) wr) (fun i _ => N - (intOf i).toNat)
  case atStart => exact ⟨0, Nat.zero_le _, rfl, hcW, h0⟩
  case round =>
    obtain ⟨k, hkN, rfl, hcr, hj⟩ := hrel
    by_cases hlt : k < N
    · have hBn : Bn < wr.heap.size := by obtain ⟨o, ho, _⟩ := cells_of_cell hcr; exact (Array.getElem?_eq_some_iff.1 ho).1
      gi_wp2_with (refine ⟨trivial, ?_⟩; gi_at_call 77; refine (CallsIn.mono (callsIn_wide.2 (codeOf_c k len (by omega) (by omega) _)) ?_); rintro e w1 ⟨A, c, rfl, hrd, hb1⟩)
      obtain ⟨rest, hrest⟩ := range_split hlt
      obtain ⟨fn, tmps, assign, body, hy, hR⟩ := HY.out (List.range k) k rest w1 #[.slice A len c] hrest (hJ _ _ _ hj hb1) ⟨A, c, rfl, hrd⟩
      rw [hy, Oper.uponIn_round]
      refine ⟨fun h => (by cases h), ?_⟩
      refine hR.mono ?_
      rintro e W3 ⟨rfl, hJ3, hk3⟩
      have hc3 : W3.cell? ⟨Bn, 0, none⟩ = some (.int .i64 len) := (hk3.cell (p := ⟨Bn, 0, none⟩) hS).trans ((hb1.cell (p := ⟨Bn, 0, none⟩) hBn).trans hcr)
      gi_wp2
      go_roundw
      case rel => exact ⟨k + 1, by omega, by go_num, hc3, by rw [List.range_succ]; exact hJ3⟩
      case measure => simp [intOf]; omega
    · obtain rfl : k = N := by omega
      gi_wp2
      go_end0
      exact ⟨⟨_, rfl⟩, hj⟩
end Go.Proofs.YtnigmdkhecblnaaDoor

/- The correlation of two lists of numbers as a plain sum; its bounds. No condition. -/
namespace Go.Proofs.YtnigmdkhecblnaaDoor

/-- The first so many terms of the correlation at a lag from 0 on, added up. -/
def corrTo (a b : List Int) (lag : Nat) : Nat → Int
  | 0 => 0
  | k + 1 => corrTo a b lag k + a.getD (k + lag) 0 * b.getD k 0
/-- The correlation at a lag from 0 on. -/
def corrN (a b : List Int) (lag : Nat) : Int := corrTo a b lag (a.length - lag)
/-- The correlation at any lag. -/
def corr (a b : List Int) (lag : Int) : Int := if lag < 0 then corrN b a (-lag).toNat else corrN a b lag.toNat

/-- Numbers of size at most one. -/
def Small (l : List Int) : Prop := ∀ x ∈ l, -1 ≤ x ∧ x ≤ 1
theorem Small.at_ {l : List Int} (h : Small l) (k : Nat) : -1 ≤ l.getD k 0 ∧ l.getD k 0 ≤ 1 := by
  by_cases hk : k < l.length
  · have e : l.getD k 0 = l[k] := by simp [List.getD, hk]
    rw [e]; exact h _ (List.getElem_mem hk)
  · have e : l.getD k 0 = 0 := by simp [List.getD, Nat.le_of_not_lt hk]
    rw [e]; omega
theorem small_mul {x y : Int} (h1 : -1 ≤ x) (h2 : x ≤ 1) (h3 : -1 ≤ y) (h4 : y ≤ 1) : -1 ≤ x * y ∧ x * y ≤ 1 := by
  have hx : x = -1 ∨ x = 0 ∨ x = 1 := by omega
  have hy : y = -1 ∨ y = 0 ∨ y = 1 := by omega
  rcases hx with rfl | rfl | rfl <;> rcases hy with rfl | rfl | rfl <;> decide
theorem corrTo_bd {a b : List Int} (ha : Small a) (hb : Small b) (lag k : Nat) : -(k : Int) ≤ corrTo a b lag k ∧ corrTo a b lag k ≤ k := by
  induction k with
  | zero => simp [corrTo]
  | succ k ih =>
    have h1 := ha.at_ (k + lag)
    have h2 := hb.at_ k
    have h3 := small_mul h1.1 h1.2 h2.1 h2.2
    simp only [corrTo]
    omega
theorem corrN_bd {a b : List Int} (ha : Small a) (hb : Small b) (lag : Nat) : -(a.length : Int) ≤ corrN a b lag ∧ corrN a b lag ≤ a.length := by
  have := corrTo_bd ha hb lag (a.length - lag)
  unfold corrN
  omega

/-- The first lag from 1 on at which the sum of both correlations is not 0, 0 if there is none. -/
def lobeFrom (a b : List Int) : Nat → Nat → Int
  | 0, _ => 0
  | n + 1, k => if corrN a a k + corrN b b k ≠ 0 then (k : Int) else lobeFrom a b n (k + 1)
def lobe (a b : List Int) : Int := lobeFrom a b (a.length - 1) 1

theorem lobeFrom_skip (a b : List Int) (n k j : Nat) (hj : j ≤ n) (h : ∀ i, k ≤ i → i < k + j → corrN a a i + corrN b b i = 0) : lobeFrom a b n k = lobeFrom a b (n - j) (k + j) := by
  induction j generalizing n k with
  | zero => rfl
  | succ j ih =>
    obtain ⟨n, rfl⟩ : ∃ m, n = m + 1 := ⟨n - 1, by omega⟩
    have h0 := h k (by omega) (by omega)
    simp only [lobeFrom, h0, ne_eq, not_true_eq_false, if_false]
    rw [ih n (k + 1) (by omega) (fun i h1 h2 => h i (by omega) (by omega))]
    congr 1 <;> omega
theorem lobe_none (a b : List Int) (h : ∀ i, 1 ≤ i → i < a.length → corrN a a i + corrN b b i = 0) : lobe a b = 0 := by
  unfold lobe
  rw [lobeFrom_skip a b _ 1 (a.length - 1) (Nat.le_refl _) (fun i h1 h2 => h i h1 (by omega)), Nat.sub_self]
  rfl
theorem lobe_at (a b : List Int) (k : Nat) (h1 : 1 ≤ k) (h2 : k < a.length) (h : ∀ i, 1 ≤ i → i < k → corrN a a i + corrN b b i = 0) (hk : corrN a a k + corrN b b k ≠ 0) : lobe a b = k := by
  unfold lobe
  rw [lobeFrom_skip a b _ 1 (k - 1) (by omega) (fun i h3 h4 => h i h3 (by omega))]
  obtain ⟨m, hm⟩ : ∃ m, a.length - 1 - (k - 1) = m + 1 := ⟨a.length - 1 - k, by omega⟩
  rw [hm, show 1 + (k - 1) = k from by omega]
  simp only [lobeFrom, ne_eq, hk, not_false_eq_true, if_true]
end Go.Proofs.YtnigmdkhecblnaaDoor

/- Contracts: correlations. -/
namespace Go.Proofs.YtnigmdkhecblnaaDoor
open Go.RowKit
set_option maxRecDepth 100000

theorem corr_nat (a b : List Int) (A B : Option Addr) (c d lag : Nat) (w : World) (hr : Rd w A (ints a)) (hs : Rd w B (ints b)) (ha : Small a) (hb : Small b) (hl : a.length ≤ 1000) (hab : a.length = b.length) (hlag : lag ≤ a.length) :
    Calls Tryd.prog 78 #[.slice A a.length c, .slice B b.length d, .int .i64 lag] w fun r w' => r = .returned (.int .i64 (corrN a b lag)) ∧ ∃ n, w' = w.drewN n := by
  have HAB := hide hab
  have hbl : b.length ≤ 1000 := by omega
  clear hab
  have hd : decide ((lag : Int) < 0) = false := by simp
  go_enter Tryd.func78, Tryd.ntmps78
  go_wp2
  go_loopw [7, 20] (fun s i wr => ∃ k : Nat, k ≤ a.length - lag ∧ i = .int .i64 k ∧ s = .int .i64 (corrTo a b lag k) ∧ ∃ n, wr = w.drewN n) (fun _ i _ => a.length - lag - (intOf i).toNat)
  case atStart => exact ⟨0, Nat.zero_le _, rfl, rfl, 0, rfl⟩
  case round =>
    obtain ⟨k, hk, rfl, rfl, n, rfl⟩ := hrel
    by_cases hlt : k < a.length - lag
    · have hlt1 : k + lag < a.length := by omega
      have hlt2 : k < b.length := by have := HAB.out; omega
      obtain ⟨b1, off1, rfl, _, hc1⟩ := hr.int_at hlt1
      obtain ⟨b2, off2, rfl, _, hc2⟩ := hs.int_at hlt2
      have e1 : a.getD (k + lag) 0 = a[k + lag] := by simp [List.getD, hlt1]
      have e2 : b.getD k 0 = b[k] := by simp [List.getD, hlt2]
      have h1 := ha.at_ (k + lag)
      have h2 := hb.at_ k
      rw [e1] at h1
      rw [e2] at h2
      obtain ⟨h3, h4⟩ := small_mul h1.1 h1.2 h2.1 h2.2
      obtain ⟨h5, h6⟩ := corrTo_bd ha hb lag k
      have H : Hid (corrTo a b lag (k + 1) = corrTo a b lag k + a[k + lag] * b[k]) := by show corrTo a b lag (k + 1) = _; rw [corrTo, e1, e2]
      clear e1 e2 h1 h2
      generalize a[k + lag] = x at hc1 h3 h4 H
      generalize b[k] = y at hc2 h3 h4 H
      generalize corrTo a b lag k = s at h5 h6 H
      go_wp2
      go_quiet (fail)
      go_wp2
      go_roundw
      case rel => exact ⟨k + 1, by omega, by go_num, by rw [H.out], _, rfl⟩
      case measure => simp [intOf]; omega
    · have H : Hid (corrN a b lag = corrTo a b lag k) := by show corrN a b lag = _; unfold corrN; congr 1; omega
      go_wp2
      go_ret
      exact ⟨by rw [H.out]; rfl, n, rfl⟩

theorem corr_c (a b : List Int) (A B : Option Addr) (c d : Nat) (lag : Int) (w : World) (hr : Rd w A (ints a)) (hs : Rd w B (ints b)) (ha : Small a) (hb : Small b) (hl : a.length ≤ 1000) (hab : a.length = b.length)
    (h1 : -(a.length : Int) ≤ lag) (h2 : lag ≤ a.length) :
    Calls Tryd.prog 78 #[.slice A a.length c, .slice B b.length d, .int .i64 lag] w fun r w' => r = .returned (.int .i64 (corr a b lag)) ∧ ∃ n, w' = w.drewN n := by
  by_cases hn : lag < 0
  · obtain ⟨k, rfl⟩ : ∃ k : Nat, lag = -(k : Int) := ⟨(-lag).toNat, by omega⟩
    have H : Hid (corr a b (-(k : Int)) = corrN b a k) := by
      show corr a b (-(k : Int)) = _
      unfold corr
      rw [if_pos hn, Int.neg_neg, Int.toNat_natCast]
    have hc := corr_nat b a B A d c k w hs hr hb ha (by omega) hab.symm (by omega)
    have HC := hide hc
    clear hc hab
    have hd : decide (-(k : Int) < 0) = true := by simpa using hn
    go_enter Tryd.func78, Tryd.ntmps78
    go_wp2_with (first | (go_at_call 78; refine HC.out.mono ?_; rintro e w1 ⟨rfl, n, rfl⟩))
    go_ret
    exact ⟨by rw [H.out]; rfl, n, rfl⟩
  · obtain ⟨k, rfl⟩ : ∃ k : Nat, lag = (k : Int) := ⟨lag.toNat, by omega⟩
    refine (corr_nat a b A B c d k w hr hs ha hb hl hab (by omega)).mono ?_
    rintro e w' ⟨rfl, n, rfl⟩
    exact ⟨by unfold corr; rw [if_neg hn, Int.toNat_natCast], n, rfl⟩

theorem lobeOf_c (a b : List Int) (A B : Option Addr) (c d : Nat) (w : World) (hr : Rd w A (ints a)) (hs : Rd w B (ints b)) (ha : Small a) (hb : Small b) (hl : a.length ≤ 1000) (hab : a.length = b.length) :
    Calls Tryd.prog 58 #[.slice A a.length c, .slice B b.length d] w fun r w' => r = .returned (.int .i64 (lobe a b)) ∧ ∃ n, w' = w.drewN n := by
  have HAB := hide hab
  have HA : Hid (∀ (k : Nat) (W : World), k ≤ a.length → Rd W A (ints a) → Calls Tryd.prog 78 #[.slice A a.length c, .slice A a.length c, .int .i64 k] W fun r w' => r = .returned (.int .i64 (corrN a a k)) ∧ ∃ n, w' = W.drewN n) :=
    fun k W hk hw => corr_nat a a A A c c k W hw hw ha ha hl rfl hk
  have HB : Hid (∀ (k : Nat) (W : World), k ≤ a.length → Rd W B (ints b) → Calls Tryd.prog 78 #[.slice B b.length d, .slice B b.length d, .int .i64 k] W fun r w' => r = .returned (.int .i64 (corrN b b k)) ∧ ∃ n, w' = W.drewN n) :=
    fun k W hk hw => corr_nat b b B B d d k W hw hw hb hb (by omega) rfl (by omega)
  clear hab
  go_enter Tryd.func58, Tryd.ntmps58
  go_wp2
  go_loopw [5] (fun i wr => ∃ k : Nat, 1 ≤ k ∧ i = .int .i64 k ∧ (k ≤ a.length ∨ k = 1) ∧ (∃ n, wr = w.drewN n) ∧ Hid (∀ i, 1 ≤ i → i < k → corrN a a i + corrN b b i = 0)) (fun i _ => a.length - (intOf i).toNat)
  case atStart => exact ⟨1, Nat.le_refl _, rfl, .inr rfl, ⟨0, rfl⟩, fun _ _ h => by omega⟩
  case round =>
    obtain ⟨k, hk, rfl, hk2, ⟨n, rfl⟩, h0⟩ := hrel
    by_cases hlt : k < a.length
    · obtain ⟨g1, g2⟩ := corrN_bd ha ha k
      obtain ⟨g3, g4⟩ := corrN_bd hb hb k
      have hbl : b.length ≤ 1000 := by have := HAB.out; omega
      by_cases hz : corrN a a k + corrN b b k = 0
      · have H1 : Hid (∀ i, 1 ≤ i → i < k + 1 → corrN a a i + corrN b b i = 0) := fun i h1 h2 => by
          by_cases e : i = k
          · subst e; exact hz
          · exact h0.out i h1 (by omega)
        have e1 : (corrN a a k + corrN b b k != 0) = false := by simpa using hz
        clear hz hk2
        go_wp2_with (first
          | (go_at_call_of 78 (Value.slice A a.length c); refine (HA.out k _ (by omega) (hr.drewN _)).mono ?_; rintro e w1 ⟨rfl, n1, rfl⟩)
          | (go_at_call_of 78 (Value.slice B b.length d); refine (HB.out k _ (by omega) (hs.drewN _)).mono ?_; rintro e w2 ⟨rfl, n2, rfl⟩))
        go_roundw
        case rel => exact ⟨k + 1, by omega, by go_num, by omega, ⟨_, rfl⟩, H1⟩
        case measure => simp [intOf]; omega
      · have H1 : Hid (lobe a b = k) := lobe_at a b k hk hlt h0.out hz
        have e1 : (corrN a a k + corrN b b k != 0) = true := by simpa using hz
        clear hz hk2
        go_wp2_with (first
          | (go_at_call_of 78 (Value.slice A a.length c); refine (HA.out k _ (by omega) (hr.drewN _)).mono ?_; rintro e w1 ⟨rfl, n1, rfl⟩)
          | (go_at_call_of 78 (Value.slice B b.length d); refine (HB.out k _ (by omega) (hs.drewN _)).mono ?_; rintro e w2 ⟨rfl, n2, rfl⟩))
        go_ret
        exact ⟨by rw [H1.out]; rfl, _, rfl⟩
    · have H1 : Hid (lobe a b = 0) := lobe_none a b fun i h1 h2 => h0.out i h1 (by omega)
      clear hk2
      go_wp2
      go_ret
      exact ⟨by rw [H1.out]; rfl, n, rfl⟩
end Go.Proofs.YtnigmdkhecblnaaDoor

/- Contracts: partners of a code. -/
namespace Go.Proofs.YtnigmdkhecblnaaDoor
open Go.RowKit
set_option maxRecDepth 100000

/-- A function's contract from its body, where the body holds a loop over a function. -/
theorem calls_marks {P : Program} {f : FuncId} {fn : Func} {c : Code} {args : Array Value} {w : World} {R : Ending → World → Prop} (n : Nat) (hf : P.funcs[f]? = some fn) (hb : fn.body = some c)
    (h : c.wp P (bodyPostM Fence.wide n P fn R) { tmps := args ++ Array.replicate (fn.ntmps - args.size) undef, defers := [] } w) : Calls P f args w R :=
  callsIn_wide.1 (callsIn_of_wp_marks (n := n) hf hb trivial (wpIn_wide.2 h))

section
variable {W0 wx w1 : World} {p : Addr} {v : Value} {B : Nat}
/-- What a region with loads beside calls keeps: a cell, and that nothing below has turned. -/
theorem held_bel (h : wx.cell? p = some v ∧ Below B W0 wx) (hb : Below wx.heap.size wx w1) (hB : B ≤ wx.heap.size) : w1.cell? p = some v ∧ Below B W0 w1 :=
  ⟨(hb.cell (World.block_lt_of_cell? _ _ h.1)).trans h.1, h.2.trans (hb.mono hB)⟩
theorem held_alloc (h : wx.cell? p = some v ∧ Below B W0 wx) (hB : B ≤ wx.heap.size) (o : Obj) : (wx.alloc o).cell? p = some v ∧ Below B W0 (wx.alloc o) :=
  held_bel h ((Below.refl _ _).alloc (Nat.le_refl _) o) hB
theorem held_drew (h : wx.cell? p = some v ∧ Below B W0 wx) : wx.drew.cell? p = some v ∧ Below B W0 wx.drew := ⟨h.1, h.2.drew⟩
end

/-- Slices that read as lists of numbers, one by one. -/
def Lists (w : World) : List Value → List (List Int) → Prop
  | [], [] => True
  | v :: vs, l :: ll => (∃ A c, v = .slice A l.length c ∧ RdT w 3 A (ints l)) ∧ Lists w vs ll
  | _, _ => False
theorem Lists.keep {w w' : World} (h : ∀ A l, RdT w 3 A (ints l) → RdT w' 3 A (ints l)) : ∀ {vs : List Value} {ll : List (List Int)}, Lists w vs ll → Lists w' vs ll
  | [], [], _ => trivial
  | _ :: _, _ :: _, ⟨⟨A, c, h1, h2⟩, h3⟩ => ⟨⟨A, c, h1, h _ _ h2⟩, Lists.keep h h3⟩
  | [], _ :: _, h => h.elim
  | _ :: _, [], h => h.elim
theorem Lists.drewN {w : World} {vs : List Value} {ll : List (List Int)} (h : Lists w vs ll) (n : Nat) : Lists (w.drewN n) vs ll :=
  Lists.keep (w := w) (w' := w.drewN n) (fun A l (h : RdT w 3 A (ints l)) => show RdT (w.drewN n) 3 A (ints l) from h) h
theorem Lists.snoc {w : World} {A : Option Addr} {c : Nat} {l : List Int} (h : RdT w 3 A (ints l)) : ∀ {vs : List Value} {ll : List (List Int)}, Lists w vs ll → Lists w (vs ++ [.slice A l.length c]) (ll ++ [l])
  | [], [], _ => ⟨⟨A, c, rfl, h⟩, trivial⟩
  | _ :: _, _ :: _, ⟨h1, h3⟩ => ⟨h1, Lists.snoc h h3⟩
  | [], _ :: _, h => h.elim
  | _ :: _, [], h => h.elim
theorem Lists.length : ∀ {w : World} {vs : List Value} {ll : List (List Int)}, Lists w vs ll → vs.length = ll.length
  | _, [], [], _ => rfl
  | _, _ :: _, _ :: _, ⟨_, h⟩ => by simp [Lists.length h]
  | _, [], _ :: _, h => h.elim
  | _, _ :: _, [], h => h.elim

/-- The error of a code whose partners are searched. -/
def partE (l : List Int) : Int := firstE [codeE l, errIf (decide ((10 : Int) < l.length)) 8]
theorem partE_zero {l : List Int} (h : partE l = 0) : codeE l = 0 ∧ l.length ≤ 10 := by
  unfold partE firstE at h
  by_cases h1 : codeE l = 0
  · rw [if_pos h1] at h
    refine ⟨h1, ?_⟩
    by_cases h2 : (10 : Int) < l.length
    · simp [firstE, errIf, h2] at h
    · omega
  · rw [if_neg h1] at h; exact absurd h h1
theorem codeE_zero {l : List Int} (h : codeE l = 0) : 1 ≤ l.length ∧ l.length ≤ 32 ∧ ∀ x ∈ l, x = 1 ∨ x = -1 := by
  unfold codeE at h
  by_cases h1 : lenE l.length 32 = 0
  · rw [if_pos h1] at h
    rw [lenE_eq] at h1
    refine ⟨?_, ?_, fun x hx => ?_⟩
    · split at h1 <;> omega
    · split at h1
      · omega
      · split at h1 <;> omega
    · obtain ⟨j, hj, rfl⟩ := List.getElem_of_mem hx
      clear hx
      -- the first bad item
      have key : ∀ j (hj : j < l.length), codeItem l[j] = 0 := by
        intro j
        induction j using Nat.strongRecOn with
        | _ j ih =>
          intro hj
          by_cases hz : codeItem l[j] = 0
          · exact hz
          · have := firstBadFrom_some (fun _ n => codeItem n) l 0 j hj (fun i hi => ih i hi (by omega)) hz
            rw [this] at h
            exact h
      have hk := key j hj
      unfold codeItem at hk
      by_cases hx : l[j] = 1 ∨ l[j] = -1
      · exact hx
      · rw [if_neg hx] at hk; omega
  · rw [if_neg h1] at h; exact absurd h h1
theorem small_of_code {l : List Int} (h : codeE l = 0) : Small l := fun x hx => by rcases (codeE_zero h).2.2 x hx with rfl | rfl <;> omega
theorem bitAt_pm (bits len i : Nat) : bitAt bits len i = 1 ∨ bitAt bits len i = -1 := by
  unfold bitAt
  have := Nat.mod_lt (bits / 2 ^ (len - 1 - i)) (show 0 < 2 by omega)
  omega
theorem small_codeL (bits len : Nat) : Small (codeL bits len) := fun x hx => by
  obtain ⟨i, _, rfl⟩ := List.mem_map.1 hx
  rcases bitAt_pm bits len i with h | h <;> omega

/-- The codes with which a code is a complementary pair, out of those of some bits. -/
def partL (l : List Int) (bs : List Nat) : List (List Int) := (bs.filter fun b => lobe l (codeL b l.length) == 0).map fun b => codeL b l.length
theorem partL_snoc_yes (l : List Int) (bs : List Nat) (b : Nat) (h : lobe l (codeL b l.length) = 0) : partL l (bs ++ [b]) = partL l bs ++ [codeL b l.length] := by
  simp [partL, List.filter_append, h]
theorem partL_snoc_no (l : List Int) (bs : List Nat) (b : Nat) (h : lobe l (codeL b l.length) ≠ 0) : partL l (bs ++ [b]) = partL l bs := by
  simp [partL, List.filter_append, h]
theorem partL_length (l : List Int) (bs : List Nat) : (partL l bs).length ≤ bs.length := by
  simp [partL]; exact List.length_filter_le _ _

/-- What a variable's box holds: a slice of its own of slices that read as ll. -/
def Held (n₀ p : Nat) (ll : List (List Int)) (W : World) : Prop := ∃ v vs, Boxed W p 64 v ∧ W.ownsRow n₀ 23 1 v ll.length vs ∧ Lists W vs ll

theorem Held.stable (n₀ p : Nat) (ll : List (List Int)) : Stable (Held n₀ p ll) := fun _ _ ⟨v, vs, h1, h2, h3⟩ hb =>
  ⟨v, vs, boxed_bel h1 hb, ownsRow_bel h2 hb, h3.keep fun _ _ h => h.bel hb⟩
theorem Held.deaf (n₀ p B : Nat) (ll : List (List Int)) : Deaf B (Held n₀ p ll) := fun _ _ _ o' ⟨v, vs, h1, h2, h3⟩ _ hl ho =>
  ⟨v, vs, boxed_putObj h1 o' hl ho, ownsRow_putObj h2 o' hl ho, h3.keep fun _ _ h => h.putObj o' hl ho⟩
end Go.Proofs.YtnigmdkhecblnaaDoor

/- Contracts: partners of a code (the walk). -/
namespace Go.Proofs.YtnigmdkhecblnaaDoor
open Go.RowKit
set_option maxRecDepth 100000
attribute [local go_sem] Oper.semAt_some

theorem Tryd.info22 : (Tryd.prog.info? 23).map (fun i => (i.zero, i.size, i.bytes)) = some (some (.slice none 0 0), 1, 24) := by kernel_rfl

theorem partners_c (l : List Int) (A : Option Addr) (c : Nat) (w : World) (hr : Rd w A (ints l)) (hl : l.length ≤ 1000) :
    Calls Tryd.prog 31 #[.slice A l.length c] w fun r w' =>
      ((partE l ≠ 0 ∧ r = .returned (.tuple #[.slice none 0 0, .int .i64 (partE l)])) ∨
        (partE l = 0 ∧ ∃ A' c' vs, r = .returned (.tuple #[.slice A' vs.length c', .int .i64 0]) ∧ Rd w' A' vs ∧ Lists w' vs (partL l (List.range (2 ^ l.length))))) ∧ Below w.heap.size w w' := by
  obtain ⟨i0, hi, iz0, iz1, iz2⟩ := info_parts Tryd.info22
  refine calls_marks 5 Tryd.func31 rfl ?_
  simp only [Tryd.ntmps31, List.size_toArray, List.length_cons, List.length_nil, Nat.reduceAdd, Nat.reduceSub, Array.replicate_succ, Array.replicate_zero, List.push_toArray, List.append_toArray, List.nil_append, List.cons_append]
  go_wp2
  have hS0 : (w.alloc (.cells #[.slice A l.length c] 23)).cell? ⟨w.heap.size, 0, none⟩ = some (.slice A l.length c) ∧ Below w.heap.size w (w.alloc (.cells #[.slice A l.length c] 23)) :=
    ⟨by simp, (Below.refl _ _).alloc (Nat.le_refl _) _⟩
  have hz0 : w.heap.size ≤ (w.alloc (.cells #[.slice A l.length c] 23)).drew.heap.size := by simp
  have HS := hide hS0
  clear hS0
  go_region_held3 (fun w' => w'.cell? ⟨w.heap.size, 0, none⟩ = some (.slice A l.length c) ∧ Below w.heap.size w w')
    (first | exact held_drew HS.out | exact held_bel (held_drew HS.out) hb1 hz0 | exact held_alloc (held_bel (held_drew HS.out) hb1 hz0) (Nat.le_trans hz0 hb1.size) _)
    (first
      | (go_at_call 56; refine (checkCode_c l A c _ ?_ hl).mono ?_; exact hr.bel (held_drew HS.out).2; rintro e w1 ⟨rfl, hb1⟩)
      | (go_at_call 41; refine (errorIf_c _ _ _).mono ?_; rintro e w' ⟨rfl, rfl⟩)
      | (go_at_call 39; refine (firstError_2 _ _ _).mono ?_; rintro e w' ⟨rfl, rfl⟩))
  have hF := held_alloc (held_bel (held_drew HS.out) hb1 hz0) (Nat.le_trans hz0 hb1.size) (.cells #[.int .i64 (codeE l), .int .i64 (errIf (decide ((10 : Int) < l.length)) 8)] 28)
  generalize hW : w1.alloc (.cells #[.int .i64 (codeE l), .int .i64 (errIf (decide ((10 : Int) < l.length)) 8)] 28) = W at hF ⊢
  rw [show firstE [codeE l, errIf (decide ((10 : Int) < l.length)) 8] = partE l from rfl]
  obtain ⟨hcell, hbel⟩ := hF
  have hsz : w.heap.size < W.heap.size := World.block_lt_of_cell? _ _ hcell
  clear hb1 HS hW
  by_cases he : partE l = 0
  · have e1 : (partE l != 0) = false := by simpa using he
    have HE := hide he
    clear he
    go_wp2_with (first | (go_at_call 57; refine (codesOf_c _ _).mono ?_; rintro e w2 ⟨rfl, rfl⟩))
    have hp := partE_zero HE.out
    have hl10 : l.length ≤ 10 := hp.2
    have hsm : Small l := small_of_code hp.1
    clear hp
    obtain ⟨p, hp⟩ : ∃ p, W.heap.size = p := ⟨_, rfl⟩
    obtain ⟨W2, hW2⟩ : ∃ W2, (W.alloc (.cells #[.slice none 0 0] 64)).alloc (.cells #[.int .i64 l.length] 3) = W2 := ⟨_, rfl⟩
    have hsz2 : W2.heap.size = p + 2 := by rw [← hW2, ← hp]; simp
    have hb2 : Below p W W2 := by rw [← hW2, ← hp]; exact ((Below.refl _ W).alloc (Nat.le_refl _) _).alloc (by simp) _
    have hbox : Boxed W2 p 64 (.slice none 0 0) := by
      rw [← hW2, ← hp]; exact (Boxed.new W _ _).alloc _
    have hlen2 : W2.cell? ⟨p + 1, 0, none⟩ = some (.int .i64 l.length) := by
      rw [← hW2, ← hp]
      simp
    rw [hW2, hp]
    have hwp : w.heap.size < p := by omega
    have hcell2 : W2.cell? ⟨w.heap.size, 0, none⟩ = some (.slice A l.length c) := (hb2.cell (p := ⟨w.heap.size, 0, none⟩) hwp).trans hcell
    have hbel2 : Below w.heap.size w W2 := hbel.trans (hb2.mono (by omega))
    have hr2 : Rd W2 A (ints l) := hr.bel hbel2
    clear hW2 hcell hbel hb2
    obtain ⟨S, hS⟩ : ∃ S : Nat → Prop, ∀ k, S k ↔ k < p + 2 ∧ k ≠ p := ⟨fun k => k < p + 2 ∧ k ≠ p, fun _ => Iff.rfl⟩
    refine wpIn_wide.1 (range_law (n := 5) (α := Nat) rfl Tryd.call76 (codes_iter 4 l.length (p + 1) (by omega) hl10 S ((hS _).2 ⟨by omega, by omega⟩) W2 hlen2)
      (fun k hk => by rw [hsz2]; exact ((hS k).1 hk).1) (fun x args W h => by obtain ⟨_, _, rfl, _⟩ := h; rfl)
      (fun x args W l o o' ⟨A, c, h1, h2⟩ _ hl ho => ⟨A, c, h1, h2.putObj o' hl ho⟩)
      (fun pre W => Held (p + 2) p (partL l pre) W ∧ Keep S W2 W)
      (fun pre W W' ⟨h1, h2⟩ hb => ⟨Held.stable _ _ _ _ _ h1 hb, h2.trans (Keep.of_below hb fun k hk => by have h3 := h2.size; have := ((hS k).1 hk).1; omega)⟩)
      (fun pre W l o o' ⟨h1, h2⟩ hB hl ho => ⟨Held.deaf _ _ _ _ _ _ _ _ h1 hB hl ho, h2.trans (Keep.putObj _ _ _ fun hk => by have := ((hS l).1 hk).1; omega)⟩)
      ⟨⟨_, [], hbox, World.ownsRow_nil _ _ _ _, trivial⟩, Keep.refl _ _⟩
      (fun args => { tmps := #[.slice A l.length c, .pointer (some ⟨w.heap.size, 0, none⟩), .slice none 0 0, .int .i64 0, .int .i64 (partE l), .pointer (some ⟨p, 0, none⟩), args.getD 0 undef, .slice A l.length c,
          .int .i64 (codeE l), .slice A l.length c, .int .i64 l.length, .bool (decide ((10 : Int) < l.length)), .int .i64 (errIf (decide ((10 : Int) < l.length)) 8), .slice (some ⟨w1.heap.size, 0, none⟩) 2 2, .int .i64 (partE l),
          .int .i64 (partE l), .bool false, undef, .slice A l.length c, .int .i64 l.length, .func (.func 76) #[] #[.pointer (some ⟨p + 1, 0, none⟩)], args.getD 0 undef, undef, undef, undef, undef, undef, undef, undef, undef, undef], defers := [] })
      ?assign ?body ?done)
    case assign =>
      rintro l' x args W' K ⟨A', c', rfl, _⟩ hK
      gi_wp2
      exact hK
    case body =>
      rintro l' pre b rest args W' hx ⟨⟨v, vs, hbx, hown, hls⟩, hkp⟩ ⟨A', c', rfl, hrd⟩ hge
      have hSw : ∀ k, k < p → S k := fun k hk => (hS k).2 ⟨by omega, by omega⟩
      have hcellW : W'.cell? ⟨w.heap.size, 0, none⟩ = some (.slice A l.length c) := (hkp.cell (p := ⟨w.heap.size, 0, none⟩) (hSw _ hwp)).trans hcell2
      have hbW : Below w.heap.size w W' := hbel2.trans ⟨hkp.os, hkp.tape, hkp.output, hkp.size, fun k hk => hkp.block k (hSw k (by omega))⟩
      have hrW : Rd W' A (ints l) := hr.bel hbW
      have HL : Hid (Calls Tryd.prog 58 #[.slice A l.length c, .slice A' l.length c'] W' fun r w' => r = .returned (.int .i64 (lobe l (codeL b l.length))) ∧ ∃ n, w' = W'.drewN n) := by
        have := lobeOf_c l (codeL b l.length) A A' c c' W' hrW hrd.1 hsm (small_codeL _ _) hl (by rw [codeL_length])
        rw [codeL_length] at this
        exact this
      have hg : ∀ v : Value, (#[v] : Array Value).getD 0 undef = v := fun _ => rfl
      simp only [hg]
      have hbc := hbx.cell
      have hbf := hbx.frozen
      have hpW : p < W'.heap.size := hbx.lt
      by_cases hz : lobe l (codeL b l.length) = 0
      · have e2 : (lobe l (codeL b l.length) == 0) = true := by simpa using hz
        have HP := hide (partL_snoc_yes l pre b hz)
        have hlenp := partL_length l pre
        have hprelen : pre.length ≤ 1024 := by
          have h1 := congrArg List.length hx
          have h2 : 2 ^ l.length ≤ 2 ^ 10 := Nat.pow_le_pow_right (by omega) hl10
          simp at h1
          omega
        clear hz
        gi_wp2_with (first
          | (refine ⟨trivial, ?_⟩; gi_at_call 58; refine (CallsIn.mono (CallsIn.inRound l' (callsIn_wide.2 HL.out)) ?_); rintro e w3 ⟨rfl, n3, rfl⟩)
          | (gi_at_builtin; refine wpListIn_append_own _ rfl _ _ 64 rfl (p + 2) 23 i0 _ 1 24 Tryd.underlying64 hi iz0 iz1 iz2 rfl (by decide) _ _ _ rfl (World.ownsRow.alloc (show (W'.drewN n3).ownsRow _ _ _ _ _ _ from hown) _) ⟨(W'.drewN n3).heap.size, 0, none⟩ 1 1 [.slice A' l.length c'] rfl rfl (cell_one_new _ _ _) (by simp [Value.oneCell']) (by simp only [maxLen]; omega) (by omega) (by simp; omega) ?_; intro v' w4 hown' hgrow _; obtain ⟨g', cap', rfl⟩ := ownsRow_succ hown'; obtain ⟨hv1, hv2, hr2, hk2, hkS, hkT⟩ := box_append (S := S) (show Boxed (W'.drewN n3) p _ _ from hbx) (by decide) (show (W'.drewN n3).ownsRow _ _ _ _ _ _ from hown) hown' hgrow (fun k hk => (hS k).1 hk) (by simp; omega); have hc1 := hv1.cell; have hf1 := hv1.frozen))
        refine ⟨⟨hk2.size, hk2.same⟩, ⟨hkS.os, hkS.tape, hkS.output, hkS.size, hkS.block⟩, ⟨_, vs ++ [.slice A' l.length c'], hv2, ?_, ?_⟩, hkp.trans ⟨hkS.os, hkS.tape, hkS.output, hkS.size, hkS.block⟩⟩
        · rw [HP.out, List.length_append]; exact hr2
        · rw [HP.out]
          have h1 := (hls.drewN n3).keep (w' := w4.setCell ⟨p, 0, none⟩ (.slice (some ⟨g', 0, none⟩) ((partL l pre).length + 1) cap')) fun A l h => RdT.keep (show RdT (W'.drewN n3) 3 A (ints l) from h) (hkT 3 (by decide) (by decide))
          have h2 := h1.snoc (c := c') (RdT.keep (show RdT (W'.drewN n3) 3 A' (ints (codeL b l.length)) from hrd) (hkT 3 (by decide) (by decide)))
          rw [codeL_length] at h2
          exact h2
      · have e2 : (lobe l (codeL b l.length) == 0) = false := by simpa using hz
        have HP := hide (partL_snoc_no l pre b hz)
        clear hz
        gi_wp2_with (first
          | (refine ⟨trivial, ?_⟩; gi_at_call 58; refine (CallsIn.mono (CallsIn.inRound l' (callsIn_wide.2 HL.out)) ?_); rintro e w3 ⟨rfl, n3, rfl⟩))
        refine ⟨⟨Nat.le_refl _, fun _ _ h _ => h⟩, ⟨rfl, rfl, rfl, Nat.le_refl _, fun _ _ => rfl⟩, ⟨v, vs, hbx, ?_, ?_⟩, ⟨hkp.os, hkp.tape, hkp.output, hkp.size, hkp.block⟩⟩
        · rw [HP.out]; exact hown
        · rw [HP.out]; exact hls.drewN n3
    case done =>
      rintro D W' hD ⟨⟨v, vs, hbx, hown, hls⟩, hkp⟩ hK
      have hbc := hbx.cell
      obtain ⟨A', c', rfl⟩ := ownsRow_slice hown
      go_wp2
      refine ⟨by simp, .inl ⟨_, _, rfl, run_takeDeferred hK, ?_⟩⟩
      refine ⟨_, results_tmp2 rfl _ _ _, .inr ⟨HE.out, A', c', vs, ?_, ?_, ?_⟩, ?_⟩
      · rw [hls.length]; rfl
      · have := Rd.of_own hown
        exact this.putObj _ hK rfl
      · exact hls.keep fun _ _ h => h.putObj _ hK rfl
      · refine hbel2.trans ⟨hkp.os, hkp.tape, hkp.output, by simpa using hkp.size, fun k hk => ?_⟩
        rw [World.putObj_heap_other (by omega)]
        exact hkp.block k ((hS k).2 ⟨by omega, by omega⟩)
  · have e1 : (partE l != 0) = true := by simpa using he
    have HE := hide he
    clear he
    go_wp2
    exact ⟨_, results_tmp2 rfl _ _ _, .inl ⟨HE.out, rfl⟩, hbel⟩
end Go.Proofs.YtnigmdkhecblnaaDoor

