/- Contracts: frames as the reference checks, copies and uses them. -/
import Derived.Test.YtnigmdkhecblnaaDoorMF
import Derived.Test.YtnigmdkhecblnaaDoorME
set_option linter.unusedSimpArgs false
set_option linter.unusedVariables false
namespace Go.Proofs.YtnigmdkhecblnaaDoor
open Go.RowKit
set_option maxRecDepth 100000

theorem quiet_eq {f : FuncId} {args : Array Value} {w : World} {n : Nat} {v : Value}
    (h : Calls Tryd.prog f args (w.drewN n) fun e w' => e = .returned v ∧ w.drewN n = w') : Calls Tryd.prog f args (w.drewN n) fun e w'' => e = .returned v ∧ ∃ m, w'' = w.drewN m :=
  Calls.quiet_of_same (h.mono fun _ _ h => ⟨h.1, h.2.symm⟩)

/-- A number among numbers. -/
def hasB (l : List Int) (n : Int) : Bool := l.contains n
theorem has_c (l : List Int) (n : Int) (A : Option Addr) (c : Nat) (w : World) (hr : Rd w A (ints l)) (hl : l.length ≤ 1000) :
    Calls Tryd.prog 20 #[.slice A l.length c, .int .i64 n] w fun r w' => r = .returned (.bool (hasB l n)) ∧ w = w' := by
  go_enter Tryd.func20, Tryd.ntmps20
  go_wp2
  go_loop [5] (fun i => ∃ k : Nat, k ≤ l.length ∧ i = .int .i64 k ∧ Hid (∀ j (h : j < l.length), j < k → l[j] ≠ n)) (fun i => l.length - (intOf i).toNat)
  case atStart => exact ⟨0, Nat.zero_le _, rfl, fun _ _ h => absurd h (Nat.not_lt_zero _)⟩
  case round =>
    obtain ⟨k, hk, rfl, h0⟩ := hrel
    by_cases hlt : k < l.length
    · obtain ⟨b, off, rfl, hb, hc0⟩ := hr.int_at hlt
      by_cases hz : l[k] = n
      · have H1 : Hid (hasB l n = true) := by
          show l.contains n = true
          rw [List.contains_iff_mem, ← hz]
          exact List.getElem_mem hlt
        have e1 : (l[k] == n) = true := by simpa using hz
        clear hz
        generalize l[k] = x at hc0 e1
        go_wp2
        go_ret
        exact ⟨by rw [H1.out]; rfl, rfl⟩
      · have H1 : Hid (∀ j (h : j < l.length), j < k + 1 → l[j] ≠ n) := fun j h hj => by
          by_cases e : j = k
          · subst e; exact hz
          · exact h0.out j h (by omega)
        have e1 : (l[k] == n) = false := by simpa using hz
        clear hz
        generalize l[k] = x at hc0 e1
        go_wp2
        go_round
        case rel => exact ⟨k + 1, by omega, by go_num, H1⟩
        case measure => simp [intOf]; omega
    · have H1 : Hid (hasB l n = false) := by
        show l.contains n = false
        rw [← Bool.not_eq_true, List.contains_iff_mem]
        intro hm
        obtain ⟨j, hj, e⟩ := List.getElem_of_mem hm
        exact h0.out j hj (by omega) e
      go_wp2
      go_ret
      exact ⟨by rw [H1.out]; rfl, rfl⟩

theorem isPart_c (x y most : Int) (w : World) (h1 : -9223372036854775807 ≤ most) (h2 : most ≤ 9223372036854775807) :
    Calls Tryd.prog 72 #[.agg #[.int .i64 x, .int .i64 y], .int .i64 most] w fun r w' => r = .returned (.bool (!beyB (x, y) most)) ∧ Below w.heap.size w w' := by
  have H : Hid ((!beyB (x, y) most) = (!outB x (-most) most && !outB y (-most) most)) := by show _ = _; simp [beyB]
  generalize hb1 : outB x (-most) most = b1 at H
  generalize hb2 : outB y (-most) most = b2 at H
  cases b1 <;> cases b2 <;> (
    go_enter Tryd.func72, Tryd.ntmps72
    go_wp2_with (first | (go_at_call 22; refine (within_c _ _ _ _).mono ?_; rintro e w' ⟨rfl, rfl⟩))
    go_ret
    exact ⟨by rw [H.out]; rfl, (Below.refl _ _).alloc (Nat.le_refl _) _⟩)

def fewB (n m : Nat) : Bool := decide (n ≤ 70 ∧ m ≤ 70)
theorem fewFrame_c (gain limit : Int) (A G : Option Addr) (n m cA c : Nat) (w : World) :
    Calls Tryd.prog 7 #[.agg #[.int .i64 gain, .int .i64 limit, .slice A n cA, .slice G m c]] w fun r w' => r = .returned (.bool (fewB n m)) ∧ Below w.heap.size w w' := by
  by_cases h1 : n ≤ 70
  · have e1 : decide ((n : Int) ≤ 70) = true := by simp; omega
    have H : Hid (fewB n m = decide ((m : Int) ≤ 70)) := by show _ = _; unfold fewB; rw [Bool.eq_iff_iff]; simp; omega
    clear h1
    go_enter Tryd.func7, Tryd.ntmps7
    go_wp2
    go_ret
    exact ⟨by rw [H.out]; rfl, (Below.refl _ _).alloc (Nat.le_refl _) _⟩
  · have e1 : decide ((n : Int) ≤ 70) = false := by simp; omega
    have H : Hid (fewB n m = false) := by show _ = _; simp [fewB, h1]
    clear h1
    go_enter Tryd.func7, Tryd.ntmps7
    go_wp2
    go_ret
    exact ⟨by rw [H.out]; rfl, (Below.refl _ _).alloc (Nat.le_refl _) _⟩

/-- The indexes below k of the bools that are b. -/
def idxL (us : List Bool) (b : Bool) : Nat → List Int
  | 0 => []
  | k + 1 => if us.getD k false = b then idxL us b k ++ [(k : Int)] else idxL us b k
theorem idxL_le (us : List Bool) (b : Bool) (k : Nat) : (idxL us b k).length ≤ k := by
  induction k with
  | zero => simp [idxL]
  | succ k ih =>
    simp only [idxL]
    split
    · simp; omega
    · omega

theorem Rd.bool_at {w : World} {A : Option Addr} {l : List Bool} (h : Rd w A (bls l)) {k : Nat} (hk : k < l.length) : ∃ b off, A = some ⟨b, off, none⟩ ∧ b < w.heap.size ∧ w.cell? ⟨b, off + k, none⟩ = some (.bool l[k]) := by
  obtain ⟨b, off, rfl, hlt, hc⟩ := h (by intro e; have := congrArg List.length e; rw [bls_length, List.length_nil] at this; omega)
  exact ⟨b, off, rfl, hlt, hc k _ (by simp [bls, hk])⟩

theorem indexes_c (gain limit : Int) (A G U : Option Addr) (n m cA c cU : Nat) (us : List Bool) (b : Bool) (w : World) (hu : Rd w U (bls us)) (hl : us.length ≤ 1000) :
    Calls Tryd.prog 45 #[.agg #[.int .i64 gain, .int .i64 limit, .slice A n cA, .slice G m c, .slice U us.length cU], .bool b] w fun r w' =>
      (∃ A' c', r = .returned (.slice A' (idxL us b us.length).length c') ∧ RdT w' 3 A' (ints (idxL us b us.length))) ∧ Below w.heap.size w w' := by
  obtain ⟨i0, hi, iz0, iz1, iz2⟩ := info_parts Tryd.info3
  go_enter Tryd.func45, Tryd.ntmps45
  go_wp2
  obtain ⟨V, hV⟩ : ∃ V, w.alloc (.cells #[.int .i64 gain, .int .i64 limit, .slice A n cA, .slice G m c, .slice U us.length cU] 81) = V := ⟨_, rfl⟩
  have hwV : Below w.heap.size w V := by rw [← hV]; exact alloc_bel _ _
  rw [hV]
  clear hV
  go_loopw [5, 11] (fun v i wr => ∃ k : Nat, k ≤ us.length ∧ i = .int .i64 k ∧ Below V.heap.size V wr ∧ wr.ownsRow V.heap.size 3 1 v (idxL us b k).length (ints (idxL us b k))) (fun _ i _ => us.length - (intOf i).toNat)
  case atStart => exact ⟨0, Nat.zero_le _, rfl, Below.refl _ _, World.ownsRow_nil _ _ _ _⟩
  case round =>
    obtain ⟨k, hk, rfl, hbr, hown⟩ := hrel
    have hle := idxL_le us b k
    by_cases hlt : k < us.length
    · obtain ⟨bu, off, rfl, hbu, z0⟩ := (hu.bel (tr hwV hbr hwV.size)).bool_at hlt
      have hF : Hid (idxL us b (k + 1) = if us[k] = b then idxL us b k ++ [(k : Int)] else idxL us b k) := by
        show _ = _
        rw [idxL, List.getD, List.getElem?_eq_getElem hlt]; rfl
      generalize us[k] = u at z0 hF
      by_cases hub : u = b
      · have hF2 : Hid (idxL us b (k + 1) = idxL us b k ++ [(k : Int)]) := by have := hF.out; rw [if_pos hub] at this; exact this
        subst hub
        clear hF
        have e1 : (u == u) = true := by simp
        generalize idxL us u k = L at hown hle hF2
        go_wp2_with (first | (at_builtin; refine wpList_append_own _ rfl _ _ 23 rfl V.heap.size 3 i0 (.int .i64 0) 1 8 Tryd.underlying23 hi iz0 iz1 iz2 rfl (by decide) _ _ _ rfl (hown.alloc _) ⟨wr.heap.size, 0, none⟩ 1 1 [.int .i64 (k : Int)] rfl rfl (cell_one_new _ _ _) (by simp [Value.oneCell']) (by unfold maxLen; omega) (by omega) (by have := hbr.size; simp; omega) ?_; intro v' w5 hown5 hg5 _))
        have hb5 : Below V.heap.size V w5 := (hbr.alloc hbr.size _).grown hg5 (by have := hbr.size; simp; omega) (fun j hj => (hown.lt j hj).1)
        go_roundw
        case rel => exact ⟨k + 1, by omega, by go_num, hb5, by rw [hF2.out, List.length_append, ints_append]; exact hown5⟩
        case measure => simp [intOf]; omega
      · have hF2 : Hid (idxL us b (k + 1) = idxL us b k) := by have := hF.out; rw [if_neg hub] at this; exact this
        have e1 : (u == b) = false := by simpa using hub
        clear hF hub
        generalize idxL us b k = L at hown hle hF2
        go_wp2
        go_roundw
        case rel => exact ⟨k + 1, by omega, by go_num, hbr, by rw [hF2.out]; exact hown⟩
        case measure => simp [intOf]; omega
    · obtain rfl : k = us.length := by omega
      obtain ⟨A', c', rfl⟩ := ownsRow_slice hown
      go_wp2
      go_ret
      exact ⟨⟨A', c', rfl, RdT.of_own hown⟩, tr hwV hbr hwV.size⟩

/-- The error of a frame that is used, and its usable samples. -/
theorem usableIn_c (gain limit : Int) (A G : Option Addr) (cA c : Nat) (samples : List (Int × Int)) (gaps : List Int) (w : World) (hs : Rd w A (gs samples)) (hr : Rd w G (ints gaps)) (hn : samples.length ≤ 1000) (hg : gaps.length ≤ 1000) :
    Calls Tryd.prog 16 #[.agg #[.int .i64 gain, .int .i64 limit, .slice A samples.length cA, .slice G gaps.length c]] w fun r w' =>
      (((frameE gain limit samples gaps).2 ≠ 0 ∧ r = .returned (.tuple #[.slice none 0 0, .int .i64 (frameE gain limit samples gaps).2])) ∨
        ((frameE gain limit samples gaps).2 = 0 ∧ ∃ A' c', r = .returned (.tuple #[.slice A' (idxL (usableL limit samples gaps) true samples.length).length c', .int .i64 0]) ∧ RdT w' 3 A' (ints (idxL (usableL limit samples gaps) true samples.length)))) ∧ Below w.heap.size w w' := by
  have HC := hide (fun W (h1 : Rd W A (gs samples)) (h2 : Rd W G (ints gaps)) => checked_c gain limit A G cA c samples gaps W h1 h2 hn hg)
  have hul : (usableL limit samples gaps).length = samples.length := by simp [usableL]
  by_cases he : (frameE gain limit samples gaps).2 = 0
  · have HE := hide he
    have HC2 : Hid (∀ W, Rd W A (gs samples) → Rd W G (ints gaps) → Calls Tryd.prog 38 #[.agg #[.int .i64 gain, .int .i64 limit, .slice A samples.length cA, .slice G gaps.length c]] W fun r w' =>
        (∃ U cU, r = .returned (.tuple #[.agg #[.int .i64 gain, .int .i64 limit, .slice A samples.length cA, .slice G gaps.length c, .slice U samples.length cU], .int .i64 0]) ∧ RdT w' 4 U (bls (usableL limit samples gaps))) ∧ Below W.heap.size W w') := fun W h1 h2 => (HC.out W h1 h2).mono fun _ _ ⟨h, hb⟩ => ⟨by rcases h with ⟨h, _⟩ | ⟨_, h⟩; exact absurd he h; exact h, hb⟩
    clear HC he
    have HI := hide (fun (U : Option Addr) (cU : Nat) W (h : Rd W U (bls (usableL limit samples gaps))) => indexes_c gain limit A G U samples.length gaps.length cA c cU (usableL limit samples gaps) true W h (by omega))
    rw [hul] at HI
    clear hul
    go_enter Tryd.func16, Tryd.ntmps16
    go_wp2_with (first
      | (go_at_call 38; refine (HC2.out _ (hs.bel (alloc_bel _ _)) (hr.bel (alloc_bel _ _))).mono ?_; rintro e w1 ⟨⟨U, cU, rfl, hU⟩, hb1⟩)
      | (go_at_call 45; refine (HI.out U cU _ (hU.bel (alloc_bel _ _)).1).mono ?_; rintro e w2 ⟨⟨A', c', rfl, hrA⟩, hb2⟩))
    go_ret2
    refine ⟨.inr ⟨HE.out, A', c', rfl, hrA⟩, ?_⟩
    have h1 := tr (alloc_bel w (.cells #[.int .i64 gain, .int .i64 limit, .slice A samples.length cA, .slice G gaps.length c] 25)) hb1 (by simp)
    exact tr (tr h1 (alloc_bel w1 _) h1.size) hb2 (by have := h1.size; simp; omega)
  · have HE := hide he
    have e1 : ((frameE gain limit samples gaps).2 != 0) = true := by simpa using he
    have HC2 : Hid (∀ W, Rd W A (gs samples) → Rd W G (ints gaps) → Calls Tryd.prog 38 #[.agg #[.int .i64 gain, .int .i64 limit, .slice A samples.length cA, .slice G gaps.length c]] W fun r w' =>
        r = .returned (.tuple #[.agg #[.int .i64 0, .int .i64 0, .slice none 0 0, .slice none 0 0, .slice none 0 0], .int .i64 (frameE gain limit samples gaps).2]) ∧ Below W.heap.size W w') := fun W h1 h2 => (HC.out W h1 h2).mono fun _ _ ⟨h, hb⟩ => ⟨by rcases h with ⟨_, h⟩ | ⟨h, _⟩; exact h; exact absurd h he, hb⟩
    clear HC he
    generalize (frameE gain limit samples gaps).2 = E at e1 HC2 HE
    go_enter Tryd.func16, Tryd.ntmps16
    go_wp2_with (first
      | (go_at_call 38; refine (HC2.out _ (hs.bel (alloc_bel _ _)) (hr.bel (alloc_bel _ _))).mono ?_; rintro e w1 ⟨rfl, hb1⟩))
    go_ret2
    refine ⟨.inl ⟨HE.out, rfl⟩, ?_⟩
    have h1 := tr (alloc_bel w (.cells #[.int .i64 gain, .int .i64 limit, .slice A samples.length cA, .slice G gaps.length c] 25)) hb1 (by simp)
    exact tr h1 (alloc_bel w1 _) h1.size
end Go.Proofs.YtnigmdkhecblnaaDoor
