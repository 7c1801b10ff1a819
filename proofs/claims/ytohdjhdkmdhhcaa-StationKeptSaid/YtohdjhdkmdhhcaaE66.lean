/- Contracts: copies of items, few items, the reference's check of a queue. -/
import Derived.Test.YtohdjhdkmdhhcaaE65
import Derived.Test.YtohdjhdkmdhhcaaE15
set_option linter.unusedSimpArgs false
set_option linter.unusedVariables false
set_option linter.unusedSimpArgs false
set_option linter.unusedVariables false
namespace Go.Proofs.Ytohdjhdkmdhhcaa
open Go.RowKit
set_option maxRecDepth 100000

theorem Try.infoT : (Try.prog.info? 37).map (fun i => (i.zero, i.size, i.bytes)) = some (some (.agg #[.string ByteArray.empty, .int .i64 0, .int .i64 0, .int .i64 0]), 4, 40) := by kernel_rfl
theorem own_capT {w : World} {base : Nat} {e : TypeId} {size n m c : Nat} {A : Option Addr} {xs : List Value} (h : w.ownsRow base e size (.slice A m c) n xs) : n ≤ c := by
  rcases h.2 with ⟨h', h0⟩ | ⟨g, cap, cur, h', _, _, hnc, _⟩
  · omega
  · cases h'
    exact hnc
theorem copyItemsOwn_c (l : List IT) (A : Option Addr) (c : Nat) (w : World) (hr : Rd w A (its l)) (hl : l.length ≤ 1000) :
    Calls Try.prog 10 #[.slice A l.length c] w fun r w' => (∃ A' c', r = .returned (.slice A' l.length c') ∧ w'.ownsRow w.heap.size 37 4 (.slice A' l.length c') l.length (its l)) ∧ Below w.heap.size w w' := by
  obtain ⟨i0, hi, iz0, iz1, iz2⟩ := info_parts Try.infoT
  go_enter Try.func10, Try.ntmps10
  go_wp2_with (first | (at_builtin; refine wpList_append_rd _ rfl _ _ 22 rfl w.heap.size 37 i0 _ 4 40 Try.underlying22 hi iz0 iz1 iz2 rfl (by decide) (.slice (some ⟨w.heap.size, 0, none⟩) 0 0) 0 [] rfl (World.ownsRow_made w #[] 0 (Nat.le_refl _) (by unfold maxLen; omega) rfl) A l.length c (its l) rfl (by simp) (hr.alloc _) (its_one l) (by unfold maxLen; omega) (by omega) (by simp) ?_; intro v' w1 hown1 hg1))
  have hb : Below w.heap.size w w1 := ((Below.refl _ _).alloc (Nat.le_refl _) (.cells #[] 37)).grown hg1 (by simp) (by simp [Value.ownBlock])
  rw [Nat.zero_add, List.nil_append] at hown1
  obtain ⟨A', c', rfl⟩ := ownsRow_slice hown1
  go_ret
  exact ⟨⟨A', c', rfl, hown1⟩, hb⟩
theorem copyItems_c (l : List IT) (A : Option Addr) (c : Nat) (w : World) (hr : Rd w A (its l)) (hl : l.length ≤ 1000) :
    Calls Try.prog 10 #[.slice A l.length c] w fun r w' => (∃ A' c', r = .returned (.slice A' l.length c') ∧ Rd w' A' (its l) ∧ l.length ≤ c') ∧ Below w.heap.size w w' :=
  (copyItemsOwn_c l A c w hr hl).mono fun r w' ⟨⟨A', c', h1, h2⟩, h3⟩ => ⟨⟨A', c', h1, Rd.of_own h2, own_capT h2⟩, h3⟩

/-- Few items, with short names. -/
def fewT (q : List IT) : Bool := decide (q.length ≤ 22) && q.all fun x => decide (x.1.size ≤ 30)
theorem fewItems_c (q : List IT) (A : Option Addr) (c : Nat) (w : World) (hr : Rd w A (its q)) (hm : q.length ≤ maxLen) :
    Calls Try.prog 8 #[.slice A q.length c] w fun r w' => r = .returned (.bool (fewT q)) ∧ w = w' := by
  by_cases h : 22 < q.length
  · have HR : Hid (fewT q = false) := by show _ = _; unfold fewT; rw [decide_eq_false (by omega)]; rfl
    have i0 : (22 : Int) < (q.length : Int) := by omega
    clear h
    unfold maxLen at hm
    go_enter Try.func8, Try.ntmps8
    go_wp2
    go_ret
    exact ⟨ret_bool HR.out.symm, rfl⟩
  · have HR : Hid (fewT q = q.all fun x => decide (x.1.size ≤ 30)) := by show _ = _; unfold fewT; rw [decide_eq_true (by omega)]; rfl
    have i0 : ¬ (22 : Int) < (q.length : Int) := by omega
    have hl : q.length ≤ 1000 := by omega
    clear h hm
    go_enter Try.func8, Try.ntmps8
    go_wp2
    clear i0
    go_loop [3] (fun i => ∃ k : Nat, k ≤ q.length ∧ i = .int .i64 k ∧ Hid (∀ j (h : j < q.length), j < k → q[j].1.size ≤ 30)) (fun i => q.length - (intOf i).toNat)
    case atStart => exact ⟨0, Nat.zero_le _, rfl, fun _ _ h => by omega⟩
    case round =>
      obtain ⟨k, hk, rfl, h0⟩ := hrel
      by_cases hlt : k < q.length
      · obtain ⟨b, off, rfl, hblt, hc0, _⟩ := hr.it_at hlt
        by_cases hz : q[k].1.size ≤ 30
        · have H1 : Hid (∀ j (h : j < q.length), j < k + 1 → q[j].1.size ≤ 30) := fun j h hj => by
            by_cases e : j = k
            · subst e; exact hz
            · exact h0.out j h (by omega)
          have e1 : ¬ (30 : Int) < (q[k].1.size : Int) := by omega
          clear hz
          go_wp2
          go_round
          case rel => exact ⟨k + 1, by omega, by go_num, H1⟩
          case measure => simp [intOf]; omega
        · have H1 : Hid ((q.all fun x => decide (x.1.size ≤ 30)) = false) := by
            show _ = _
            rw [List.all_eq_false]
            exact ⟨q[k], List.getElem_mem hlt, by simpa using hz⟩
          have e1 : (30 : Int) < (q[k].1.size : Int) := by omega
          clear hz
          go_wp2
          go_ret
          exact ⟨ret_bool (by rw [HR.out, H1.out]), rfl⟩
      · have H1 : Hid ((q.all fun x => decide (x.1.size ≤ 30)) = true) := by
          show _ = _
          rw [List.all_eq_true]
          intro x hx
          obtain ⟨j, hj, rfl⟩ := List.getElem_of_mem hx
          simpa using h0.out j hj (by omega)
        go_wp2
        go_ret
        exact ⟨ret_bool (by rw [HR.out, H1.out]), rfl⟩
theorem fewT_ok {q : List IT} (h : fewT q = true) : q.length ≤ 22 ∧ ∀ k (hk : k < q.length), q[k].1.size ≤ 30 := by
  unfold fewT at h
  rw [Bool.and_eq_true, List.all_eq_true] at h
  exact ⟨by simpa using h.1, fun k hk => by simpa using h.2 q[k] (List.getElem_mem hk)⟩

set_option maxHeartbeats 2000000 in
theorem refItemErr_c (A : Option Addr) (c : Nat) (q : List IT) (n : ByteArray) (p s t : Int) (w : World) (hr : Rd w A (its q)) (hl : q.length ≤ 1000) (hn : n.size ≤ 1000) :
    Calls Try.prog 38 #[.slice A q.length c, .agg #[.string n, .int .i64 p, .int .i64 s, .int .i64 t]] w fun r w' => r = .returned (.int .i64 (itemE q (n, p, s, t))) ∧ Below w.heap.size w w' := by
  have hX := Blk.new w 37 [.string n, .int .i64 p, .int .i64 s, .int .i64 t]
  have hbel := alloc_bel w (.cells #[.string n, .int .i64 p, .int .i64 s, .int .i64 t] 37)
  have hrW := hr.bel hbel
  generalize hW : w.alloc (.cells #[.string n, .int .i64 p, .int .i64 s, .int .i64 t] 37) = W at hX hbel hrW
  have HW := hide hW
  clear hW hr
  have HR : Hid (itemE q (n, p, s, t) = firstE [nameE n, errIf (q.any fun y => eqS y.1 n) 5, errIf (outB p 0 9) 2, errIf (outB s 1 10000) 2, tickE t]) := rfl
  have HN := hide (fun W => refIsName_c n W hn)
  have hz := hX.lt
  have hXc := hX
  have c0 := hXc.cell 0; have c1 := hXc.cell 1; have c2 := hXc.cell 2; have c3 := hXc.cell 3; simp only [List.getElem?_cons_zero, List.getElem?_cons_succ] at c0 c1 c2 c3
  clear hXc
  cases hnm : nameB (byI n)
  · have HV : Hid (itemE q (n, p, s, t) = 4) := by show _ = _; rw [HR.out]; simp [nameE, hnm, errIf, firstE]
    rw [hnm] at HN
    go_enter Try.func38, Try.ntmps38
    go_upto_region 1 with fail
    rw [HW.out]
    go_wp2_with (first | (go_at_call 69; refine (HN.out _).mono ?_; rintro e_ w_ ⟨rfl, rfl⟩))
    go_ret
    exact ⟨by rw [HV.out]; rfl, hbel⟩
  · rw [hnm] at HN
    have HR2 : Hid (itemE q (n, p, s, t) = firstE [errIf (q.any fun y => eqS y.1 n) 5, errIf (outB p 0 9) 2, errIf (outB s 1 10000) 2, tickE t]) := by show _ = _; rw [HR.out]; simp [nameE, hnm, errIf, firstE]
    clear HR hnm
    go_enter Try.func38, Try.ntmps38
    go_upto_region 1 with fail
    rw [HW.out]
    go_wp2_with (first | (go_at_call 69; refine (HN.out _).mono ?_; rintro e_ w_ ⟨rfl, rfl⟩))
    clear c0 c1 c2 c3
    go_loopw [5] (fun i wr => ∃ k : Nat, k ≤ q.length ∧ i = .int .i64 k ∧ Below W.heap.size W wr ∧ Hid (∀ j (h : j < q.length), j < k → eqS q[j].1 n = false)) (fun i _ => q.length - (intOf i).toNat)
    case atStart => exact ⟨0, Nat.zero_le _, rfl, Below.refl _ _, fun _ _ h => by omega⟩
    case round =>
      obtain ⟨k, hk, rfl, hb, h0⟩ := hrel
      have hbr := bel_tr hbel (by omega) hb
      have hXr := hX.bel hb
      have hzr := hXr.lt
      have c0 := hXr.cell 0; have c1 := hXr.cell 1; have c2 := hXr.cell 2; have c3 := hXr.cell 3; simp only [List.getElem?_cons_zero, List.getElem?_cons_succ] at c0 c1 c2 c3
      by_cases hlt : k < q.length
      · obtain ⟨b, off, rfl, hblt, x0, _⟩ := (hrW.bel hb).it_at hlt
        cases hq : eqS q[k].1 n
        · have H1 : Hid (∀ j (h : j < q.length), j < k + 1 → eqS q[j].1 n = false) := fun j h hj => by
            by_cases e : j = k
            · subst e; exact hq
            · exact h0.out j h (by omega)
          have hq' : (q[k].1.toList == n.toList) = false := hq
          clear hq
          go_wp2
          go_quiet (fail)
          go_wp2
          go_roundw
          case rel => exact ⟨k + 1, by omega, by go_num, below_drewN hb _, H1⟩
          case measure => simp [intOf]; omega
        · have HV : Hid (itemE q (n, p, s, t) = 5) := by
            show _ = _
            rw [HR2.out, List.any_eq_true.2 ⟨q[k], List.getElem_mem hlt, hq⟩]
            simp [errIf, firstE]
          have hq' : (q[k].1.toList == n.toList) = true := hq
          clear hq
          go_wp2
          go_quiet (fail)
          go_wp2
          go_ret
          exact ⟨by rw [HV.out]; rfl, below_drewN hbr _⟩
      · have HV : Hid (itemE q (n, p, s, t) = firstE [errIf (outB p 0 9) 2, errIf (outB s 1 10000) 2, tickE t]) := by
          show _ = _
          have : (q.any fun y => eqS y.1 n) = false := by
            rw [List.any_eq_false]
            intro x hx
            obtain ⟨j, hj, rfl⟩ := List.getElem_of_mem hx
            simp [h0.out j hj (by omega)]
          rw [HR2.out, this]
          simp [errIf, firstE]
        clear HR2 h0
        have HWI := hide (fun x lo hi W => within_c x lo hi W)
        have HTI := hide (fun x W => isTick_c x W)
        cases h1 : outB p 0 9
        · cases h2 : outB s 1 10000
          · cases h3 : outB t 0 1000000000000
            · rw [h1, h2, tickE, h3] at HV
              (
                go_wp2_with (first | (go_at_call 21; refine (HWI.out _ _ _ _).mono ?_; rintro e_ w_ ⟨rfl, rfl⟩; first | rw [h1] | rw [h2]) | (go_at_call 49; refine (HTI.out _ _).mono ?_; rintro e_ w_ ⟨rfl, rfl⟩; rw [h3]))
                go_ret
                exact ⟨by rw [HV.out]; rfl, hbr⟩)
            · rw [h1, h2, tickE, h3] at HV
              (
                go_wp2_with (first | (go_at_call 21; refine (HWI.out _ _ _ _).mono ?_; rintro e_ w_ ⟨rfl, rfl⟩; first | rw [h1] | rw [h2]) | (go_at_call 49; refine (HTI.out _ _).mono ?_; rintro e_ w_ ⟨rfl, rfl⟩; rw [h3]))
                go_ret
                exact ⟨by rw [HV.out]; rfl, hbr⟩)
          · rw [h1, h2] at HV
            (
              go_wp2_with (first | (go_at_call 21; refine (HWI.out _ _ _ _).mono ?_; rintro e_ w_ ⟨rfl, rfl⟩; first | rw [h1] | rw [h2]) | (go_at_call 49; refine (HTI.out _ _).mono ?_; rintro e_ w_ ⟨rfl, rfl⟩; rw [h3]))
              go_ret
              exact ⟨by rw [HV.out]; rfl, hbr⟩)
        · rw [h1] at HV
          (
            go_wp2_with (first | (go_at_call 21; refine (HWI.out _ _ _ _).mono ?_; rintro e_ w_ ⟨rfl, rfl⟩; first | rw [h1] | rw [h2]) | (go_at_call 49; refine (HTI.out _ _).mono ?_; rintro e_ w_ ⟨rfl, rfl⟩; rw [h3]))
            go_ret
            exact ⟨by rw [HV.out]; rfl, hbr⟩)
end Go.Proofs.Ytohdjhdkmdhhcaa
