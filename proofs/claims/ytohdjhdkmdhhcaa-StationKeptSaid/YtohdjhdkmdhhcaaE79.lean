/- Contracts: copies of items, the size of a queue, comparisons. -/
import Derived.Test.YtohdjhdkmdhhcaaE78
set_option linter.unusedSimpArgs false
set_option linter.unusedVariables false
set_option linter.unusedSimpArgs false
set_option linter.unusedVariables false
namespace Go.Proofs.Ytohdjhdkmdhhcaa
open Go.RowKit
set_option maxRecDepth 100000

theorem cloneT_c (l : List IT) (A : Option Addr) (c : Nat) (w : World) (hr : Rd w A (its l)) (hl : l.length ≤ 1000) :
    Calls Try.prog 43 #[.slice A l.length c] w fun r w' => (∃ A' c', r = .returned (.slice A' l.length c') ∧ w'.ownsRow w.heap.size 37 4 (.slice A' l.length c') l.length (its l)) ∧ Below w.heap.size w w' := by
  obtain ⟨i0, hi, iz0, iz1, iz2⟩ := info_parts Try.infoT
  cases A with
  | none =>
    have hz : l = [] := by
      cases l with
      | nil => rfl
      | cons x l => obtain ⟨_, _, e, _⟩ := hr (by simp [its]); cases e
    subst hz
    have hq : ∀ W, (binOp .eql 22 (.slice none 0 c) (.slice none 0 0)).run Try.prog W = .ok (.bool true) W := fun W => eql_nil _ _ _ _ _ Try.underlying22 W
    simp only [List.length_nil]
    go_enter Try.func43, Try.ntmps43
    go_wp2
    go_ret
    exact ⟨⟨none, 0, rfl, World.ownsRow_nil _ _ _ _⟩, Below.refl _ _⟩
  | some a =>
    have hq : ∀ W, (binOp .eql 22 (.slice (some a) l.length c) (.slice none 0 0)).run Try.prog W = .ok (.bool false) W := fun W => eql_nil _ _ _ _ _ Try.underlying22 W
    go_enter Try.func43, Try.ntmps43
    go_wp2_with (first | (at_builtin; refine wpList_append_rd _ rfl _ _ 22 rfl w.heap.size 37 i0 _ 4 40 Try.underlying22 hi iz0 iz1 iz2 rfl (by decide) (.slice (some ⟨w.heap.size, 0, none⟩) 0 0) 0 [] rfl (World.ownsRow_made w #[] 0 (Nat.le_refl _) (by unfold maxLen; omega) rfl) (some a) l.length c (its l) rfl (by simp) (hr.alloc _) (its_one l) (by unfold maxLen; omega) (by omega) (by simp) ?_; intro v' w1 hown1 hg1))
    have hb : Below w.heap.size w w1 := ((Below.refl _ _).alloc (Nat.le_refl _) (.cells #[] 37)).grown hg1 (by simp) (by simp [Value.ownBlock])
    rw [Nat.zero_add, List.nil_append] at hown1
    obtain ⟨A', c', rfl⟩ := ownsRow_slice hown1
    go_ret
    exact ⟨⟨A', c', rfl, hown1⟩, hb⟩
theorem sizeOf_c (q : List IT) (A : Option Addr) (c : Nat) (w : World) (hr : Rd w A (its q)) (hl : q.length ≤ 1000) (hs : SmallS q) :
    Calls Try.prog 44 #[.slice A q.length c] w fun r w' => r = .returned (.int .i64 (sizeL q)) ∧ Below w.heap.size w w' := by
  go_enter Try.func44, Try.ntmps44
  go_wp2
  go_loopw [3, 8] (fun x i wr => ∃ k : Nat, k ≤ q.length ∧ i = .int .i64 k ∧ x = .int .i64 (sizeL (q.take k)) ∧ Below w.heap.size w wr) (fun _ i _ => q.length - (intOf i).toNat)
  case atStart => exact ⟨0, Nat.zero_le _, rfl, by simp [sizeL], Below.refl _ _⟩
  case round =>
    obtain ⟨k, hk, rfl, rfl, hb⟩ := hrel
    by_cases hlt : k < q.length
    · obtain ⟨b, off, rfl, hblt, x0, x1, x2, x3⟩ := (hr.bel hb).it_at hlt
      have HN := hide (sizeL_take q hlt)
      have h1 := sizeL_bd (hs.take k)
      have h2 := hs q[k] (List.getElem_mem hlt)
      rw [List.length_take] at h1
      generalize q[k].2.2.1 = sz at x2 HN h2
      have w1 : IntKind.i64.wrap (sizeL (q.take k) + sz) = sizeL (q.take k) + sz := by rw [IntKind.wrap_i64]; omega
      clear h1 h2
      go_wp2
      go_roundw
      case rel => exact ⟨k + 1, by omega, by go_num, by rw [HN.out], bel_alloc hb hb.size _⟩
      case measure => simp [intOf]; omega
    · have HV : Hid (sizeL (q.take k) = sizeL q) := by show _ = _; rw [List.take_of_length_le (by omega)]
      go_wp2
      go_ret
      exact ⟨by rw [← HV.out]; rfl, hb⟩
theorem total_c (q : List IT) (A : Option Addr) (c : Nat) (w : World) (hr : Rd w A (its q)) (hl : q.length ≤ 1000) (hs : SmallS q) :
    Calls Try.prog 46 #[.slice A q.length c] w fun r w' => r = .returned (.int .i64 (sizeL q)) ∧ w = w' := by
  go_enter Try.func46, Try.ntmps46
  go_wp2
  go_loop [3, 4] (fun x i => ∃ k : Nat, k ≤ q.length ∧ i = .int .i64 k ∧ x = .int .i64 (sizeL (q.take k))) (fun _ i => q.length - (intOf i).toNat)
  case atStart => exact ⟨0, Nat.zero_le _, rfl, by simp [sizeL]⟩
  case round =>
    obtain ⟨k, hk, rfl, rfl⟩ := hrel
    by_cases hlt : k < q.length
    · obtain ⟨b, off, rfl, hblt, x0, x1, x2, x3⟩ := hr.it_at hlt
      have HN := hide (sizeL_take q hlt)
      have h1 := sizeL_bd (hs.take k)
      have h2 := hs q[k] (List.getElem_mem hlt)
      rw [List.length_take] at h1
      generalize q[k].2.2.1 = sz at x2 HN h2
      have w1 : IntKind.i64.wrap (sizeL (q.take k) + sz) = sizeL (q.take k) + sz := by rw [IntKind.wrap_i64]; omega
      clear h1 h2
      go_wp2
      go_round
      case rel => exact ⟨k + 1, by omega, by go_num, by rw [HN.out]⟩
      case measure => simp [intOf]; omega
    · have HV : Hid (sizeL (q.take k) = sizeL q) := by show _ = _; rw [List.take_of_length_le (by omega)]
      go_wp2
      go_ret
      exact ⟨by rw [← HV.out]; rfl, rfl⟩

/-- The cells of strings. -/
def txs (l : List ByteArray) : List Value := l.map .string
@[simp] theorem txs_length (l : List ByteArray) : (txs l).length = l.length := by simp [txs]
@[simp] theorem txs_nil : txs [] = [] := rfl
theorem txs_append (l m : List ByteArray) : txs (l ++ m) = txs l ++ txs m := by simp [txs]
theorem txs_one (l : List ByteArray) : ∀ u ∈ txs l, u.oneCell' = true := by
  intro u hu
  obtain ⟨_, _, rfl⟩ := List.mem_map.1 hu
  rfl
theorem Rd.tx_at {w : World} {A : Option Addr} {l : List ByteArray} (h : Rd w A (txs l)) {k : Nat} (hk : k < l.length) : ∃ b off, A = some ⟨b, off, none⟩ ∧ b < w.heap.size ∧ w.cell? ⟨b, off + k, none⟩ = some (.string l[k]) := by
  obtain ⟨b, off, rfl, hlt, hc⟩ := h (by intro e; have := congrArg List.length e; rw [txs_length, List.length_nil] at this; omega)
  exact ⟨b, off, rfl, hlt, hc k _ (by simp [txs, hk])⟩
theorem texts_same (l : List ByteArray) (A B : Option Addr) (c d : Nat) (w : World) (hr : Rd w A (txs l)) (hs : Rd w B (txs l)) (hl : l.length ≤ 1000) :
    Calls Try.prog 20 #[.slice A l.length c, .slice B l.length d] w fun r w' => r = .returned (.bool true) ∧ Below w.heap.size w w' := by
  have e1 : ((l.length : Int) != (l.length : Int)) = false := by simp
  go_enter Try.func20, Try.ntmps20
  go_wp2
  go_loopw [5] (fun i wr => ∃ k : Nat, k ≤ l.length ∧ i = .int .i64 k ∧ Below w.heap.size w wr) (fun i _ => l.length - (intOf i).toNat)
  case atStart => exact ⟨0, Nat.zero_le _, rfl, Below.refl _ _⟩
  case round =>
    obtain ⟨k, hk, rfl, hb⟩ := hrel
    by_cases hlt : k < l.length
    · obtain ⟨b, off, rfl, hblt, hc0⟩ := (hr.bel hb).tx_at hlt
      obtain ⟨b', off', rfl, hblt', hc0'⟩ := (hs.bel hb).tx_at hlt
      have e2 : (l[k].toList == l[k].toList) = true := by simp
      go_wp2
      go_quiet (fail)
      go_wp2
      go_roundw
      case rel => exact ⟨k + 1, by omega, by go_num, below_drewN hb _⟩
      case measure => simp [intOf]; omega
    · go_wp2
      go_ret
      exact ⟨rfl, hb⟩
def hasT (l : List ByteArray) (s : ByteArray) : Bool := l.any fun y => eqS y s
theorem hasT_iff (l : List ByteArray) (s : ByteArray) : hasT l s = true ↔ s ∈ l := by
  unfold hasT
  rw [List.any_eq_true]
  constructor
  · rintro ⟨y, hy, h⟩
    rw [eqS_iff, decide_eq_true_eq] at h
    exact h ▸ hy
  · intro h
    exact ⟨s, h, by rw [eqS_iff, decide_eq_true_eq]⟩
theorem hasText_c (l : List ByteArray) (s : ByteArray) (A : Option Addr) (c : Nat) (w : World) (hr : Rd w A (txs l)) (hl : l.length ≤ 1000) :
    Calls Try.prog 22 #[.slice A l.length c, .string s] w fun r w' => r = .returned (.bool (hasT l s)) ∧ w = w' := by
  go_enter Try.func22, Try.ntmps22
  go_wp2
  go_loop [5] (fun i => ∃ k : Nat, k ≤ l.length ∧ i = .int .i64 k ∧ Hid (∀ j (h : j < l.length), j < k → l[j] ≠ s)) (fun i => l.length - (intOf i).toNat)
  case atStart => exact ⟨0, Nat.zero_le _, rfl, fun _ _ h => by omega⟩
  case round =>
    obtain ⟨k, hk, rfl, h0⟩ := hrel
    by_cases hlt : k < l.length
    · obtain ⟨b, off, rfl, hblt, hc0⟩ := hr.tx_at hlt
      have he : (l[k].toList == s.toList) = decide (l[k] = s) := eqS_iff l[k] s
      by_cases hz : l[k] = s
      · have H1 : Hid (hasT l s = true) := by show _ = _; rw [hasT_iff, ← hz]; exact List.getElem_mem hlt
        rw [decide_eq_true hz] at he
        clear hz
        go_wp2
        go_ret
        exact ⟨ret_bool H1.out.symm, rfl⟩
      · have H1 : Hid (∀ j (h : j < l.length), j < k + 1 → l[j] ≠ s) := fun j h hj => by
          by_cases e : j = k
          · subst e; exact hz
          · exact h0.out j h (by omega)
        rw [decide_eq_false hz] at he
        clear hz
        go_wp2
        go_round
        case rel => exact ⟨k + 1, by omega, by go_num, H1⟩
        case measure => simp [intOf]; omega
    · have H1 : Hid (hasT l s = false) := by
        show _ = _
        rw [← Bool.not_eq_true, hasT_iff]
        intro hm
        obtain ⟨j, hj, e⟩ := List.getElem_of_mem hm
        exact h0.out j hj (by omega) e
      go_wp2
      go_ret
      exact ⟨ret_bool H1.out.symm, rfl⟩

/-- Items held one against the other. -/
theorem eql_item (x y : IT) (w : World) : (binOp .eql 37 (.agg #[.string x.1, .int .i64 x.2.1, .int .i64 x.2.2.1, .int .i64 x.2.2.2]) (.agg #[.string y.1, .int .i64 y.2.1, .int .i64 y.2.2.1, .int .i64 y.2.2.2])).run Try.prog w = .ok (.bool (decide (x = y))) w := by
  have u3 := Try.underlying3
  have a3 := Try.isAgg3
  have z3 := Try.sizeOf3
  have u9 := Try.underlying9
  have a9 := Try.isAgg9
  have z9 := Try.sizeOf9
  have hS : Try.prog.underlying 37 = some (.struct (Try.prog.fieldsOf 37)) := by kernel_rfl
  have hp : Try.prog.stoodInHeld 37 = false := by kernel_rfl
  have h0 : (x.1.toList == y.1.toList) = decide (x.1 = y.1) := eqS_iff x.1 y.1
  obtain ⟨x0, x1, x2, x3⟩ := x
  obtain ⟨y0, y1, y2, y3⟩ := y
  dsimp only at h0 ⊢
  rw [run_eql_struct, show (10000 : Nat) = 9999 + 1 from rfl, run_equalIn_agg w 9999 37 _ _ hS hp]
  simp only [Program.fieldsOf, Try.underlying37]
  go_simp
  by_cases h1 : x0 = y0 <;> by_cases h2 : x1 = y1 <;> by_cases h3 : x2 = y2 <;> by_cases h4 : x3 = y3 <;> simp [h0, h1, h2, h3, h4]
theorem neq_item (x y : IT) (w : World) : (binOp .neq 37 (.agg #[.string x.1, .int .i64 x.2.1, .int .i64 x.2.2.1, .int .i64 x.2.2.2]) (.agg #[.string y.1, .int .i64 y.2.1, .int .i64 y.2.2.1, .int .i64 y.2.2.2])).run Try.prog w = .ok (.bool !(decide (x = y))) w := by
  have h := eql_item x y w
  rw [run_eql_struct] at h
  rw [run_neq_struct]
  generalize (Op.equalIn 10000 _ _ _).run Try.prog w = r at h ⊢
  cases r with
  | ok b w' =>
    simp only [Result.andThen_ok] at h ⊢
    injection h with h1 h2
    injection h1 with h1
    rw [h1, h2]
  | _ => cases h
theorem sameItems_c (l : List IT) (A B : Option Addr) (c d : Nat) (w : World) (hr : Rd w A (its l)) (hs : Rd w B (its l)) (hl : l.length ≤ 1000) :
    Calls Try.prog 19 #[.slice A l.length c, .slice B l.length d] w fun r w' => r = .returned (.bool true) ∧ Below w.heap.size w w' := by
  have e1 : ((l.length : Int) != (l.length : Int)) = false := by simp
  go_enter Try.func19, Try.ntmps19
  go_wp2
  go_loopw [5] (fun i wr => ∃ k : Nat, k ≤ l.length ∧ i = .int .i64 k ∧ Below w.heap.size w wr) (fun i _ => l.length - (intOf i).toNat)
  case atStart => exact ⟨0, Nat.zero_le _, rfl, Below.refl _ _⟩
  case round =>
    obtain ⟨k, hk, rfl, hb⟩ := hrel
    by_cases hlt : k < l.length
    · obtain ⟨b, off, rfl, hblt, x0, x1, x2, x3⟩ := (hr.bel hb).it_at hlt
      obtain ⟨b', off', rfl, hblt', y0, y1, y2, y3⟩ := (hs.bel hb).it_at hlt
      have hq := fun W => neq_item l[k] l[k] W
      simp only [decide_true, Bool.not_true] at hq
      go_wp2
      go_quiet (fail)
      go_wp2
      go_roundw
      case rel => exact ⟨k + 1, by omega, by go_num, below_drewN hb _⟩
      case measure => simp [intOf]; omega
    · go_wp2
      go_ret
      exact ⟨rfl, hb⟩
end Go.Proofs.Ytohdjhdkmdhhcaa
