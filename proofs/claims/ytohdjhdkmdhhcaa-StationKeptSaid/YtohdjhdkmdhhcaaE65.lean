/- Contracts: items, their errors, the check of a queue. -/
import Derived.Test.YtohdjhdkmdhhcaaE64
import Derived.Test.YtohdjhdkmdhhcaaE10
set_option linter.unusedSimpArgs false
set_option linter.unusedVariables false
set_option linter.unusedSimpArgs false
set_option linter.unusedVariables false
namespace Go.Proofs.Ytohdjhdkmdhhcaa
open Go.RowKit
set_option maxRecDepth 100000

/-- The cells of an item, and of items. -/
abbrev itC (x : IT) : List Value := [.string x.1, .int .i64 x.2.1, .int .i64 x.2.2.1, .int .i64 x.2.2.2]
def its (l : List IT) : List Value := l.flatMap itC
@[simp] theorem its_length (l : List IT) : (its l).length = l.length * 4 := by
  induction l with
  | nil => rfl
  | cons g l ih => simp only [its, List.flatMap_cons, List.length_append, List.length_cons, List.length_nil] at ih ⊢; omega
@[simp] theorem its_nil : its [] = [] := rfl
theorem its_cons (p : IT) (l : List IT) : its (p :: l) = .string p.1 :: .int .i64 p.2.1 :: .int .i64 p.2.2.1 :: .int .i64 p.2.2.2 :: its l := rfl
theorem its_append (l m : List IT) : its (l ++ m) = its l ++ its m := by simp [its]
theorem its_at {l : List IT} {k : Nat} (h : k < l.length) : (its l)[k * 4]? = some (.string l[k].1) ∧ (its l)[k * 4 + 1]? = some (.int .i64 l[k].2.1) ∧ (its l)[k * 4 + 2]? = some (.int .i64 l[k].2.2.1) ∧ (its l)[k * 4 + 3]? = some (.int .i64 l[k].2.2.2) := by
  induction l generalizing k with
  | nil => simp at h
  | cons g l ih =>
    rw [its_cons]
    cases k with
    | zero => exact ⟨rfl, rfl, rfl, rfl⟩
    | succ k =>
      have := ih (k := k) (by simpa using h)
      rw [show (k + 1) * 4 = k * 4 + 4 from by omega]
      simpa using this
theorem its_one (l : List IT) : ∀ u ∈ its l, u.oneCell' = true := by
  intro u hu
  obtain ⟨g, _, hg⟩ := List.mem_flatMap.1 hu
  simp at hg
  rcases hg with rfl | rfl | rfl | rfl <;> rfl
theorem Rd.it_at {w : World} {A : Option Addr} {l : List IT} (h : Rd w A (its l)) {k : Nat} (hk : k < l.length) :
    ∃ b off, A = some ⟨b, off, none⟩ ∧ b < w.heap.size ∧ w.cell? ⟨b, off + k * 4, none⟩ = some (.string l[k].1) ∧ w.cell? ⟨b, off + k * 4 + 1, none⟩ = some (.int .i64 l[k].2.1) ∧ w.cell? ⟨b, off + k * 4 + 2, none⟩ = some (.int .i64 l[k].2.2.1) ∧ w.cell? ⟨b, off + k * 4 + 3, none⟩ = some (.int .i64 l[k].2.2.2) := by
  obtain ⟨b, off, rfl, hlt, hc⟩ := h (by intro e; have := congrArg List.length e; rw [its_length, List.length_nil] at this; omega)
  obtain ⟨h1, h2, h3, h4⟩ := its_at hk
  exact ⟨b, off, rfl, hlt, hc _ _ h1, by rw [Nat.add_assoc]; exact hc _ _ h2, by rw [Nat.add_assoc]; exact hc _ _ h3, by rw [Nat.add_assoc]; exact hc _ _ h4⟩
theorem Rd.takeI {w : World} {A : Option Addr} {l : List IT} (h : Rd w A (its l)) (k : Nat) : Rd w A (its (l.take k)) := by
  intro hx
  have e2 : its l = its (l.take k) ++ its (l.drop k) := by rw [← its_append, List.take_append_drop]
  obtain ⟨g, off, e, hg, hcell⟩ := h (by intro e; rw [e2] at e; exact hx (List.append_eq_nil_iff.1 e).1)
  refine ⟨g, off, e, hg, fun j u hu => hcell j u ?_⟩
  rw [e2, List.getElem?_append_left (List.getElem?_eq_some_iff.1 hu).1]
  exact hu

/-- Strings as the model holds them one against the other. -/
def eqS (a b : ByteArray) : Bool := a.toList == b.toList
/-- The errors of an item that stands behind others, and of a queue. -/
def itemE (q : List IT) (x : IT) : Int := firstE [nameE x.1, errIf (q.any fun y => eqS y.1 x.1) 5, errIf (outB x.2.1 0 9) 2, errIf (outB x.2.2.1 1 10000) 2, tickE x.2.2.2]
def queE (q : List IT) : Int × Int := if 20 < q.length then (0, 8) else firstBadFrom (fun k x => itemE (q.take k) x) 0 q

theorem itemError1_c (n : ByteArray) (p s t : Int) (x : IT) (Bx : Nat) (w : World) (hX : Blk w Bx 37 (itC x)) :
    Calls Try.prog 62 (#[.agg #[.string n, .int .i64 p, .int .i64 s, .int .i64 t]] ++ #[.pointer (some ⟨Bx, 0, none⟩)]) w fun r w' => r = .returned (.bool (eqS n x.1)) ∧ Below w.heap.size w w' := by
  rw [show (#[.agg #[.string n, .int .i64 p, .int .i64 s, .int .i64 t]] ++ #[.pointer (some ⟨Bx, 0, none⟩)] : Array Value) = #[.agg #[.string n, .int .i64 p, .int .i64 s, .int .i64 t], .pointer (some ⟨Bx, 0, none⟩)] from rfl]
  have hz := hX.lt
  have c0 := hX.cell 0; have c1 := hX.cell 1; have c2 := hX.cell 2; have c3 := hX.cell 3; simp only [List.getElem?_cons_zero, List.getElem?_cons_succ] at c0 c1 c2 c3
  go_enter Try.func62, Try.ntmps62
  go_wp2
  go_ret
  exact ⟨rfl, alloc_bel _ _⟩

theorem indexFuncT_c (pred : IT → Bool) (f : FuncId) (l : List IT) (A : Option Addr) (c : Nat) (cap : Array Value) (w : World) (hr : Rd w A (its l)) (hl : l.length ≤ 1000)
    (hE : ∀ (args : Array Value) (W : World), (callFunc f args).run Try.prog W = .ok (.enter f args) W)
    (hchk : ∀ (k : Nat) (h : k < l.length) (W : World), Below w.heap.size w W → Calls Try.prog f (#[.agg #[.string l[k].1, .int .i64 l[k].2.1, .int .i64 l[k].2.2.1, .int .i64 l[k].2.2.2]] ++ cap) W fun r W' => r = .returned (.bool (pred l[k])) ∧ Below W.heap.size W W') :
    Calls Try.prog 83 #[.slice A l.length c, .func (.func f) #[] cap] w fun r w' => (∃ i : Int, r = .returned (.int .i64 i) ∧ decide (0 ≤ i) = l.any pred) ∧ Below w.heap.size w w' := by
  have HC := hide hchk
  clear hchk
  go_enter Try.func83, Try.ntmps83
  go_wp2
  go_loopw [8] (fun i wr => ∃ k : Nat, k ≤ l.length ∧ i = .int .i64 k ∧ Below w.heap.size w wr ∧ Hid (∀ j (h : j < l.length), j < k → pred l[j] = false)) (fun i _ => l.length - (intOf i).toNat)
  case atStart => exact ⟨0, Nat.zero_le _, rfl, Below.refl _ _, fun _ _ h => by omega⟩
  case round =>
    obtain ⟨k, hk, rfl, hb, h0⟩ := hrel
    by_cases hlt : k < l.length
    · obtain ⟨b, off, rfl, hblt, hc0, hc1, hc2, hc3⟩ := (hr.bel hb).it_at hlt
      by_cases hz : pred l[k] = true
      · have H1 : Hid (l.any pred = true) := List.any_eq_true.2 ⟨l[k], List.getElem_mem hlt, hz⟩
        go_wp2_with (refine (HC.out k hlt _ hb).mono ?_; rintro e w' ⟨rfl, hb1⟩)
        go_ret
        exact ⟨⟨k, rfl, by rw [H1.out]; simp⟩, bel_tr hb hb.size hb1⟩
      · have hz' : pred l[k] = false := by simpa using hz
        have H1 : Hid (∀ j (h : j < l.length), j < k + 1 → pred l[j] = false) := fun j h hj => by
          by_cases e : j = k
          · subst e; exact hz'
          · exact h0.out j h (by omega)
        clear hz
        go_wp2_with (refine (HC.out k hlt _ hb).mono ?_; rintro e w' ⟨rfl, hb1⟩)
        go_roundw
        case rel => exact ⟨k + 1, by omega, by go_num, bel_tr hb hb.size hb1, H1⟩
        case measure => simp [intOf]; omega
    · obtain rfl : k = l.length := by omega
      have H1 : Hid (l.any pred = false) := by
        show _ = _
        rw [List.any_eq_false]
        intro x hx
        obtain ⟨j, hj, rfl⟩ := List.getElem_of_mem hx
        simp [h0.out j hj hj]
      go_wp2
      go_ret
      exact ⟨⟨-1, rfl, by rw [H1.out]; rfl⟩, hb⟩
theorem containsFuncT_c (pred : IT → Bool) (f : FuncId) (l : List IT) (A : Option Addr) (c : Nat) (cap : Array Value) (w : World) (hr : Rd w A (its l)) (hl : l.length ≤ 1000)
    (hE : ∀ (args : Array Value) (W : World), (callFunc f args).run Try.prog W = .ok (.enter f args) W)
    (hchk : ∀ (k : Nat) (h : k < l.length) (W : World), Below w.heap.size w W → Calls Try.prog f (#[.agg #[.string l[k].1, .int .i64 l[k].2.1, .int .i64 l[k].2.2.1, .int .i64 l[k].2.2.2]] ++ cap) W fun r W' => r = .returned (.bool (pred l[k])) ∧ Below W.heap.size W W') :
    Calls Try.prog 64 #[.slice A l.length c, .func (.func f) #[] cap] w fun r w' => r = .returned (.bool (l.any pred)) ∧ Below w.heap.size w w' := by
  have HI := hide (indexFuncT_c pred f l A c cap w hr hl hE hchk)
  clear hchk
  go_enter Try.func64, Try.ntmps64
  go_wp2_with (first | (go_at_call 83; refine HI.out.mono ?_; rintro e_ w1 ⟨⟨i, rfl, hi⟩, hb1⟩))
  go_ret
  exact ⟨by rw [← hi]; rfl, hb1⟩

theorem firstError_5 (a b c d e : Int) (w : World) : Calls Try.prog 40 #[.slice (some ⟨w.heap.size, 0, none⟩) 5 5] (w.alloc (.cells #[.int .i64 a, .int .i64 b, .int .i64 c, .int .i64 d, .int .i64 e] 25)) fun r w' => r = .returned (.int .i64 (firstE [a, b, c, d, e])) ∧ (w.alloc (.cells #[.int .i64 a, .int .i64 b, .int .i64 c, .int .i64 d, .int .i64 e] 25)) = w' :=
  firstError_new [a, b, c, d, e] _ _ rfl rfl (by simp) w
theorem firstError_5D (a b c d e : Int) (w : World) : Calls Try.prog 40 #[.slice (some ⟨w.heap.size, 0, none⟩) 5 5] (w.alloc (.cells #[.int .i64 a, .int .i64 b, .int .i64 c, .int .i64 d, .int .i64 e] 25)).drew fun r w' => r = .returned (.int .i64 (firstE [a, b, c, d, e])) ∧ (w.alloc (.cells #[.int .i64 a, .int .i64 b, .int .i64 c, .int .i64 d, .int .i64 e] 25)).drew = w' :=
  firstError_newD [a, b, c, d, e] _ _ rfl rfl (by simp) w

set_option maxHeartbeats 4000000 in
theorem itemError_c (A : Option Addr) (c : Nat) (q : List IT) (n : ByteArray) (p s t : Int) (w : World) (hr : Rd w A (its q)) (hl : q.length ≤ 1000) (hn : n.size ≤ 1000) :
    Calls Try.prog 35 #[.slice A q.length c, .agg #[.string n, .int .i64 p, .int .i64 s, .int .i64 t]] w fun r w' => r = .returned (.int .i64 (itemE q (n, p, s, t))) ∧ Below w.heap.size w w' := by
  have hX := Blk.new w 37 [.string n, .int .i64 p, .int .i64 s, .int .i64 t]
  have hbel := alloc_bel w (.cells #[.string n, .int .i64 p, .int .i64 s, .int .i64 t] 37)
  have hrW := hr.bel hbel
  generalize hW : w.alloc (.cells #[.string n, .int .i64 p, .int .i64 s, .int .i64 t] 37) = W at hX hbel hrW
  have HW := hide hW
  clear hW
  have HR : Hid (itemE q (n, p, s, t) = firstE [nameE n, errIf (q.any fun y => eqS y.1 n) 5, errIf (outB p 0 9) 2, errIf (outB s 1 10000) 2, tickE t]) := rfl
  have HC := hide (fun W' (hb : Below W.heap.size W W') => containsFuncT_c (fun y => eqS y.1 n) 62 q A c #[.pointer (some ⟨w.heap.size, 0, none⟩)] W' (hrW.bel hb) hl Try.call62 (fun k h W2 hb2 => itemError1_c _ _ _ _ (n, p, s, t) w.heap.size W2 ((hX.bel hb).bel hb2)))
  generalize (q.any fun y => eqS y.1 n) = dbl at HC HR
  have c0 := hX.cell 0; have c1 := hX.cell 1; have c2 := hX.cell 2; have c3 := hX.cell 3; simp only [List.getElem?_cons_zero, List.getElem?_cons_succ] at c0 c1 c2 c3
  have hzW := hX.lt
  go_enter Try.func35, Try.ntmps35
  go_upto_region 2 with fail
  rw [HW.out]
  go_region_held3 (fun w' => (∀ b o, b < W.heap.size → w'.cell? ⟨b, o, none⟩ = W.cell? ⟨b, o, none⟩) ∧ Below W.heap.size W w')
    ((refine kp ?_; (repeat' (first | with_reducible exact Below.refl _ _ | with_reducible exact HB1.out | with_reducible refine Below.drew ?_ | with_reducible refine bel_alloc ?_ ?_ _)); all_goals (first | omega | (simp <;> omega))))
    (first
      | (go_at_call 63; refine (nameError_c _ _ hn).mono ?_; rintro e_ w_ ⟨rfl, rfl⟩)
      | (go_at_call 42; refine (errorIf_c _ _ _).mono ?_; rintro e_ w_ ⟨rfl, rfl⟩)
      | (go_at_call 41; refine (rangeError_c _ _ _ _).mono ?_; rintro e_ w_ ⟨rfl, rfl⟩)
      | (go_at_call 47; refine (tickError_c _ _).mono ?_; rintro e_ w_ ⟨rfl, rfl⟩)
      | (go_at_call 64; refine (HC.out _ (by (repeat' (first | with_reducible exact Below.refl _ _ | with_reducible exact HB1.out | with_reducible refine Below.drew ?_ | with_reducible refine bel_alloc ?_ ?_ _)); all_goals (first | omega | (simp <;> omega)))).mono ?_; rintro e_ w5 ⟨rfl, hb5⟩; have HB1 : Hid (Below W.heap.size W w5) := (by refine hide (Below.trans ?_ (hb5.mono ?_)); (repeat' (first | with_reducible exact Below.refl _ _ | with_reducible exact HB1.out | with_reducible refine Below.drew ?_ | with_reducible refine bel_alloc ?_ ?_ _)); all_goals (first | omega | (simp <;> omega))); have s1 := HB1.out.size)
      | (go_at_call 40; refine (firstError_5D _ _ _ _ _ _).mono ?_; rintro e_ w_ ⟨rfl, rfl⟩)
      | (go_at_call 40; refine (firstError_5 _ _ _ _ _ _).mono ?_; rintro e_ w_ ⟨rfl, rfl⟩))
  go_wp2
  go_ret
  exact ⟨by rw [HR.out]; rfl, bel_tr hbel (by omega) (bel_alloc HB1.out (by omega) _)⟩
theorem firstBadT_c (chk : Nat → IT → Int) (f : FuncId) (l : List IT) (A : Option Addr) (c : Nat) (cap : Array Value) (w : World) (hr : Rd w A (its l)) (hl : l.length ≤ 1000)
    (hE : ∀ (args : Array Value) (W : World), (callFunc f args).run Try.prog W = .ok (.enter f args) W)
    (hchk : ∀ (k : Nat) (h : k < l.length) (W : World), Below w.heap.size w W → Calls Try.prog f (#[.int .i64 k, .agg #[.string l[k].1, .int .i64 l[k].2.1, .int .i64 l[k].2.2.1, .int .i64 l[k].2.2.2]] ++ cap) W fun r W' => r = .returned (.int .i64 (chk k l[k])) ∧ Below W.heap.size W W') :
    Calls Try.prog 33 #[.slice A l.length c, .func (.func f) #[] cap] w fun r w' => r = .returned (.tuple #[.int .i64 (firstBadFrom chk 0 l).1, .int .i64 (firstBadFrom chk 0 l).2]) ∧ Below w.heap.size w w' := by
  have HC := hide hchk
  clear hchk
  go_enter Try.func33, Try.ntmps33
  go_wp2
  go_loopw [11] (fun i wr => ∃ k : Nat, k ≤ l.length ∧ i = .int .i64 k ∧ Below w.heap.size w wr ∧ Hid (∀ j (h : j < l.length), j < k → chk j l[j] = 0)) (fun i _ => l.length - (intOf i).toNat)
  case atStart => exact ⟨0, Nat.zero_le _, rfl, Below.refl _ _, fun _ _ h => by omega⟩
  case round =>
    obtain ⟨k, hk, rfl, hb, h0⟩ := hrel
    by_cases hlt : k < l.length
    · obtain ⟨b, off, rfl, hblt, hc0, hc1, hc2, hc3⟩ := (hr.bel hb).it_at hlt
      by_cases hz : chk k l[k] = 0
      · have H1 : Hid (∀ j (h : j < l.length), j < k + 1 → chk j l[j] = 0) := fun j h hj => by
          by_cases e : j = k
          · subst e; exact hz
          · exact h0.out j h (by omega)
        go_wp2_with (refine (HC.out k hlt _ (hb.alloc hb.size _)).mono ?_; rintro e w' ⟨rfl, hb1⟩)
        go_roundw
        case rel => exact ⟨k + 1, by omega, by go_num, tr (hb.alloc hb.size _) hb1 (by have := hb.size; first | omega | (simp; omega)), H1⟩
        case measure => simp [intOf]; omega
      · have H1 : Hid (firstBadFrom chk 0 l = ((k : Int), chk k l[k])) := by
          have := firstBadFrom_some chk l 0 k hlt (fun i hi => by simpa using h0.out i (by omega) hi) (by simpa using hz)
          show firstBadFrom chk 0 l = _; simpa using this
        go_wp2_with (refine (HC.out k hlt _ (hb.alloc hb.size _)).mono ?_; rintro e w' ⟨rfl, hb1⟩)
        go_ret2
        exact ⟨by rw [H1.out]; rfl, tr (hb.alloc hb.size _) hb1 (by have := hb.size; first | omega | (simp; omega))⟩
    · have H1 : Hid (firstBadFrom chk 0 l = (0, 0)) := firstBadFrom_none chk l 0 fun i hi => by simpa using h0.out i hi (by omega)
      go_wp2
      go_ret2
      exact ⟨by rw [H1.out]; rfl, hb⟩

theorem checkQueue1_c (k : Nat) (n : ByteArray) (p s t : Int) (q : List IT) (Bq : Nat) (A : Option Addr) (c : Nat) (w : World) (hX : w.cell? ⟨Bq, 0, none⟩ = some (.slice A q.length c)) (hr : Rd w A (its q)) (hk : k < q.length) (hl : q.length ≤ 1000) (hc : q.length ≤ c) (hn : n.size ≤ 1000) :
    Calls Try.prog 34 (#[.int .i64 (k : Int), .agg #[.string n, .int .i64 p, .int .i64 s, .int .i64 t]] ++ #[.pointer (some ⟨Bq, 0, none⟩)]) w fun r w' => r = .returned (.int .i64 (itemE (q.take k) (n, p, s, t))) ∧ Below w.heap.size w w' := by
  rw [show (#[.int .i64 (k : Int), .agg #[.string n, .int .i64 p, .int .i64 s, .int .i64 t]] ++ #[.pointer (some ⟨Bq, 0, none⟩)] : Array Value) = #[.int .i64 (k : Int), .agg #[.string n, .int .i64 p, .int .i64 s, .int .i64 t], .pointer (some ⟨Bq, 0, none⟩)] from rfl]
  obtain ⟨W, hW⟩ : ∃ W, w.alloc (.cells #[.string n, .int .i64 p, .int .i64 s, .int .i64 t] 37) = W := ⟨_, rfl⟩
  have hB0 : Below w.heap.size w W := by rw [← hW]; exact alloc_bel _ _
  have hY0 : Blk W w.heap.size 37 [.string n, .int .i64 p, .int .i64 s, .int .i64 t] := by rw [← hW]; exact Blk.new w _ [_, _, _, _]
  have s1 := (hB0.cell (p := ⟨Bq, 0, none⟩) (World.block_lt_of_cell? _ _ hX)).trans hX
  have hz := World.block_lt_of_cell? _ _ s1
  have hr0 := (hr.bel hB0).takeI k
  have HC := hide (fun W' (hb : Below W.heap.size W W') => itemError_c A c (q.take k) n p s t W' (hr0.bel hb) (by rw [List.length_take]; omega) hn)
  rw [List.length_take_of_le (by omega)] at HC
  generalize itemE (q.take k) (n, p, s, t) = e at HC ⊢
  have HW := hide hW
  clear hW
  obtain ⟨g, off, rfl, hg, _, _⟩ := hr.it_at hk
  have d0 := hY0.cell 0; have d1 := hY0.cell 1; have d2 := hY0.cell 2; have d3 := hY0.cell 3; simp only [List.getElem?_cons_zero, List.getElem?_cons_succ] at d0 d1 d2 d3
  have hzY := hY0.lt
  have i0 : (k : Int) ≤ (c : Int) := by omega
  clear hr hr0 hX
  go_enter Try.func34, Try.ntmps34
  go_upto_region 1 with fail
  rw [HW.out]
  go_region_held3 (fun w' => (∀ b o, b < W.heap.size → w'.cell? ⟨b, o, none⟩ = W.cell? ⟨b, o, none⟩) ∧ Below W.heap.size W w')
    ((refine kp ?_; (repeat' (first | with_reducible exact Below.refl _ _ | with_reducible exact HB1.out | with_reducible refine Below.drew ?_ | with_reducible refine bel_alloc ?_ ?_ _)); all_goals (first | omega | (simp <;> omega))))
    (first
      | (go_at_call 35; refine (HC.out _ (by (repeat' (first | with_reducible exact Below.refl _ _ | with_reducible exact HB1.out | with_reducible refine Below.drew ?_ | with_reducible refine bel_alloc ?_ ?_ _)); all_goals (first | omega | (simp <;> omega)))).mono ?_; rintro e_ w5 ⟨rfl, hb5⟩; have HB1 : Hid (Below W.heap.size W w5) := (by refine hide (Below.trans ?_ (hb5.mono ?_)); (repeat' (first | with_reducible exact Below.refl _ _ | with_reducible exact HB1.out | with_reducible refine Below.drew ?_ | with_reducible refine bel_alloc ?_ ?_ _)); all_goals (first | omega | (simp <;> omega))); have s1 := HB1.out.size))
  go_wp2
  go_ret
  exact ⟨rfl, bel_tr hB0 hB0.size HB1.out⟩

theorem checkQueue_c (q : List IT) (A : Option Addr) (c : Nat) (w : World) (hr : Rd w A (its q)) (hl : q.length ≤ 1000) (hc : q.length ≤ c) (hn : ∀ k (h : k < q.length), q[k].1.size ≤ 1000) :
    Calls Try.prog 9 #[.slice A q.length c] w fun r w' => r = .returned (.tuple #[.int .i64 (queE q).1, .int .i64 (queE q).2]) ∧ Below w.heap.size w w' := by
  by_cases h : 20 < q.length
  · have HR : Hid (queE q = (0, 8)) := by show _ = _; unfold queE; rw [if_pos h]
    have i0 : (20 : Int) < (q.length : Int) := by omega
    clear h
    go_enter Try.func9, Try.ntmps9
    go_wp2
    go_ret2
    exact ⟨by rw [HR.out]; rfl, alloc_bel _ _⟩
  · have HR : Hid (queE q = firstBadFrom (fun k x => itemE (q.take k) x) 0 q) := by show _ = _; unfold queE; rw [if_neg h]
    have i0 : ¬ (20 : Int) < (q.length : Int) := by omega
    have hX := Blk.new w 22 [.slice A q.length c]
    have hbel := alloc_bel w (.cells #[.slice A q.length c] 22)
    have hrW := hr.bel hbel
    generalize hW : w.alloc (.cells #[.slice A q.length c] 22) = W at hX hbel hrW
    have HW := hide hW
    clear hW
    have HB := hide (firstBadT_c (fun k x => itemE (q.take k) x) 34 q A c #[.pointer (some ⟨w.heap.size, 0, none⟩)] W hrW hl Try.call34 (fun k h W2 hb2 => checkQueue1_c k _ _ _ _ q w.heap.size A c W2 ((hX.bel hb2).cell 0) (hrW.bel hb2) h hl hc (hn k h)))
    generalize (firstBadFrom (fun k x => itemE (q.take k) x) 0 q) = fb at HB HR
    have s1 := hX.cell 0
    simp only [List.getElem?_cons_zero] at s1
    have hz := hX.lt
    clear hX hr hrW h
    go_enter Try.func9, Try.ntmps9
    go_upto_region 1 with fail
    rw [HW.out]
    go_wp2_with (first | (go_at_call 33; refine HB.out.mono ?_; rintro e_ w3 ⟨rfl, hb3⟩))
    go_ret2
    exact ⟨by rw [HR.out]; rfl, bel_tr hbel (by omega) hb3⟩
theorem queueError_c (q : List IT) (A : Option Addr) (c : Nat) (w : World) (hr : Rd w A (its q)) (hl : q.length ≤ 1000) (hc : q.length ≤ c) (hn : ∀ k (h : k < q.length), q[k].1.size ≤ 1000) :
    Calls Try.prog 36 #[.slice A q.length c] w fun r w' => r = .returned (.int .i64 (queE q).2) ∧ Below w.heap.size w w' := by
  have HC := hide (checkQueue_c q A c w hr hl hc hn)
  generalize (queE q).1 = a at HC
  generalize (queE q).2 = b at HC ⊢
  go_enter Try.func36, Try.ntmps36
  go_wp2_with (first | (go_at_call 9; refine HC.out.mono ?_; rintro e_ w1 ⟨rfl, hb1⟩))
  go_ret
  exact ⟨rfl, hb1⟩
end Go.Proofs.Ytohdjhdkmdhhcaa
