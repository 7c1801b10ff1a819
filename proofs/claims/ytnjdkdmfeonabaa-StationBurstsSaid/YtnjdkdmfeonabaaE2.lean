/- Contracts: exchanges, their errors; firstBad at exchanges, numbers and pairs. -/
import Derived.Test.YtnjdkdmfeonabaaE1
set_option linter.unusedSimpArgs false
set_option linter.unusedVariables false
namespace Go.Proofs.Ytnjdkdmfeonabaa
open Go.RowKit
set_option maxRecDepth 100000
abbrev PT := Int × Int × Int
/-- The cells of exchanges, three each. -/
def ps (l : List PT) : List Value := l.flatMap fun p => [.int .i64 p.1, .int .i64 p.2.1, .int .i64 p.2.2]
@[simp] theorem ps_length (l : List PT) : (ps l).length = l.length * 3 := by
  induction l with
  | nil => rfl
  | cons g l ih => simp only [ps, List.flatMap_cons, List.length_append, List.length_cons, List.length_nil] at ih ⊢; omega
@[simp] theorem ps_nil : ps [] = [] := rfl
theorem ps_cons (p : PT) (l : List PT) : ps (p :: l) = .int .i64 p.1 :: .int .i64 p.2.1 :: .int .i64 p.2.2 :: ps l := rfl
theorem ps_append (l m : List PT) : ps (l ++ m) = ps l ++ ps m := by simp [ps]
theorem ps_at {l : List PT} {k : Nat} (h : k < l.length) : (ps l)[k * 3]? = some (.int .i64 l[k].1) ∧ (ps l)[k * 3 + 1]? = some (.int .i64 l[k].2.1) ∧ (ps l)[k * 3 + 2]? = some (.int .i64 l[k].2.2) := by
  induction l generalizing k with
  | nil => simp at h
  | cons g l ih =>
    rw [ps_cons]
    cases k with
    | zero => exact ⟨rfl, rfl, rfl⟩
    | succ k =>
      have := ih (k := k) (by simpa using h)
      rw [show (k + 1) * 3 = k * 3 + 3 from by omega]
      simpa using this
theorem ps_one (l : List PT) : ∀ u ∈ ps l, u.oneCell' = true := by
  intro u hu
  obtain ⟨g, _, hg⟩ := List.mem_flatMap.1 hu
  simp at hg
  rcases hg with rfl | rfl | rfl <;> rfl
theorem Rd.p_at {w : World} {A : Option Addr} {l : List PT} (h : Rd w A (ps l)) {k : Nat} (hk : k < l.length) :
    ∃ b off, A = some ⟨b, off, none⟩ ∧ b < w.heap.size ∧ w.cell? ⟨b, off + k * 3, none⟩ = some (.int .i64 l[k].1) ∧ w.cell? ⟨b, off + k * 3 + 1, none⟩ = some (.int .i64 l[k].2.1) ∧ w.cell? ⟨b, off + k * 3 + 2, none⟩ = some (.int .i64 l[k].2.2) := by
  obtain ⟨b, off, rfl, hlt, hc⟩ := h (by intro e; have := congrArg List.length e; rw [ps_length, List.length_nil] at this; omega)
  obtain ⟨h1, h2, h3⟩ := ps_at hk
  exact ⟨b, off, rfl, hlt, hc _ _ h1, by rw [Nat.add_assoc]; exact hc _ _ h2, by rw [Nat.add_assoc]; exact hc _ _ h3⟩
theorem Rd.g_in {w : World} {b off : Nat} {l : List G} (h : Rd w (some ⟨b, off, none⟩) (gs l)) {k : Nat} (hk : k < l.length) :
    b < w.heap.size ∧ w.cell? ⟨b, off + k * 2, none⟩ = some (.int .i64 l[k].1) ∧ w.cell? ⟨b, off + k * 2 + 1, none⟩ = some (.int .i64 l[k].2) := by
  obtain ⟨b', off', e, h1, h2, h3⟩ := h.g_at hk
  cases e
  exact ⟨h1, h2, h3⟩
theorem Rd.p_in {w : World} {b off : Nat} {l : List PT} (h : Rd w (some ⟨b, off, none⟩) (ps l)) {k : Nat} (hk : k < l.length) :
    b < w.heap.size ∧ w.cell? ⟨b, off + k * 3, none⟩ = some (.int .i64 l[k].1) ∧ w.cell? ⟨b, off + k * 3 + 1, none⟩ = some (.int .i64 l[k].2.1) ∧ w.cell? ⟨b, off + k * 3 + 2, none⟩ = some (.int .i64 l[k].2.2) := by
  obtain ⟨b', off', e, h1, h2, h3, h4⟩ := h.p_at hk
  cases e
  exact ⟨h1, h2, h3, h4⟩



theorem firstBadX_c (chk : Nat → PT → Int) (f : FuncId) (l : List PT) (A : Option Addr) (c : Nat) (cap : Array Value) (w : World) (hr : Rd w A (ps l)) (hl : l.length ≤ 1000)
    (hE : ∀ (args : Array Value) (W : World), (callFunc f args).run Try.prog W = .ok (.enter f args) W)
    (hchk : ∀ (k : Nat) (h : k < l.length) (W : World), Below w.heap.size w W → Calls Try.prog f (#[.int .i64 k, .agg #[.int .i64 l[k].1, .int .i64 l[k].2.1, .int .i64 l[k].2.2]] ++ cap) W fun r W' => r = .returned (.int .i64 (chk k l[k])) ∧ Below W.heap.size W W') :
    Calls Try.prog 40 #[.slice A l.length c, .func (.func f) #[] cap] w fun r w' => r = .returned (.tuple #[.int .i64 (firstBadFrom chk 0 l).1, .int .i64 (firstBadFrom chk 0 l).2]) ∧ Below w.heap.size w w' := by
  have HC := hide hchk
  clear hchk
  go_enter Try.func40, Try.ntmps40
  go_wp2
  go_loopw [11] (fun i wr => ∃ k : Nat, k ≤ l.length ∧ i = .int .i64 k ∧ Below w.heap.size w wr ∧ Hid (∀ j (h : j < l.length), j < k → chk j l[j] = 0)) (fun i _ => l.length - (intOf i).toNat)
  case atStart => exact ⟨0, Nat.zero_le _, rfl, Below.refl _ _, fun _ _ h => by omega⟩
  case round =>
    obtain ⟨k, hk, rfl, hb, h0⟩ := hrel
    by_cases hlt : k < l.length
    · obtain ⟨b, off, rfl, hblt, hc0, hc1, hc2⟩ := (hr.bel hb).p_at hlt
      by_cases hz : chk k l[k] = 0
      · have H1 : Hid (∀ j (h : j < l.length), j < k + 1 → chk j l[j] = 0) := fun j h hj => by
          by_cases e : j = k
          · subst e; exact hz
          · exact h0.out j h (by omega)
        go_wp2_with (refine (HC.out k hlt _ (hb.alloc hb.size _)).mono ?_; rintro e w' ⟨rfl, hb1⟩)
        go_roundw
        case rel => exact ⟨k + 1, by omega, by go_num, tr (hb.alloc hb.size _) hb1 (by have := hb.size; first | omega | (simp; omega)), H1⟩
        case measure => simp [intOf]; omega
      · have H1 : Hid (firstBadFrom chk 0 l = ((k : Int), chk k l[k])) := by
          have := firstBadFrom_some chk l 0 k hlt (fun i hi => by simpa using h0.out i (by omega) hi) (by simpa using hz)
          show firstBadFrom chk 0 l = _; simpa using this
        go_wp2_with (refine (HC.out k hlt _ (hb.alloc hb.size _)).mono ?_; rintro e w' ⟨rfl, hb1⟩)
        go_ret2
        exact ⟨by rw [H1.out]; rfl, tr (hb.alloc hb.size _) hb1 (by have := hb.size; first | omega | (simp; omega))⟩
    · have H1 : Hid (firstBadFrom chk 0 l = (0, 0)) := firstBadFrom_none chk l 0 fun i hi => by simpa using h0.out i hi (by omega)
      go_wp2
      go_ret2
      exact ⟨by rw [H1.out]; rfl, hb⟩

theorem firstBadI_c (chk : Nat → Int → Int) (f : FuncId) (l : List Int) (A : Option Addr) (c : Nat) (cap : Array Value) (w : World) (hr : Rd w A (ints l)) (hl : l.length ≤ 1000)
    (hE : ∀ (args : Array Value) (W : World), (callFunc f args).run Try.prog W = .ok (.enter f args) W)
    (hchk : ∀ (k : Nat) (h : k < l.length) (W : World), Below w.heap.size w W → Calls Try.prog f (#[.int .i64 k, .int .i64 l[k]] ++ cap) W fun r W' => r = .returned (.int .i64 (chk k l[k])) ∧ Below W.heap.size W W') :
    Calls Try.prog 32 #[.slice A l.length c, .func (.func f) #[] cap] w fun r w' => r = .returned (.tuple #[.int .i64 (firstBadFrom chk 0 l).1, .int .i64 (firstBadFrom chk 0 l).2]) ∧ Below w.heap.size w w' := by
  have HC := hide hchk
  clear hchk
  go_enter Try.func32, Try.ntmps32
  go_wp2
  go_loopw [11] (fun i wr => ∃ k : Nat, k ≤ l.length ∧ i = .int .i64 k ∧ Below w.heap.size w wr ∧ Hid (∀ j (h : j < l.length), j < k → chk j l[j] = 0)) (fun i _ => l.length - (intOf i).toNat)
  case atStart => exact ⟨0, Nat.zero_le _, rfl, Below.refl _ _, fun _ _ h => by omega⟩
  case round =>
    obtain ⟨k, hk, rfl, hb, h0⟩ := hrel
    by_cases hlt : k < l.length
    · obtain ⟨b, off, rfl, hblt, hc0⟩ := (hr.bel hb).int_at hlt
      by_cases hz : chk k l[k] = 0
      · have H1 : Hid (∀ j (h : j < l.length), j < k + 1 → chk j l[j] = 0) := fun j h hj => by
          by_cases e : j = k
          · subst e; exact hz
          · exact h0.out j h (by omega)
        go_wp2_with (refine (HC.out k hlt _ hb).mono ?_; rintro e w' ⟨rfl, hb1⟩)
        go_roundw
        case rel => exact ⟨k + 1, by omega, by go_num, tr hb hb1 (by have := hb.size; first | omega | (simp; omega)), H1⟩
        case measure => simp [intOf]; omega
      · have H1 : Hid (firstBadFrom chk 0 l = ((k : Int), chk k l[k])) := by
          have := firstBadFrom_some chk l 0 k hlt (fun i hi => by simpa using h0.out i (by omega) hi) (by simpa using hz)
          show firstBadFrom chk 0 l = _; simpa using this
        go_wp2_with (refine (HC.out k hlt _ hb).mono ?_; rintro e w' ⟨rfl, hb1⟩)
        go_ret2
        exact ⟨by rw [H1.out]; rfl, tr hb hb1 (by have := hb.size; first | omega | (simp; omega))⟩
    · have H1 : Hid (firstBadFrom chk 0 l = (0, 0)) := firstBadFrom_none chk l 0 fun i hi => by simpa using h0.out i hi (by omega)
      go_wp2
      go_ret2
      exact ⟨by rw [H1.out]; rfl, hb⟩

theorem firstBadP_c (chk : Nat → G → Int) (f : FuncId) (l : List G) (A : Option Addr) (c : Nat) (cap : Array Value) (w : World) (hr : Rd w A (gs l)) (hl : l.length ≤ 1000)
    (hE : ∀ (args : Array Value) (W : World), (callFunc f args).run Try.prog W = .ok (.enter f args) W)
    (hchk : ∀ (k : Nat) (h : k < l.length) (W : World), Below w.heap.size w W → Calls Try.prog f (#[.int .i64 k, .agg #[.int .i64 l[k].1, .int .i64 l[k].2]] ++ cap) W fun r W' => r = .returned (.int .i64 (chk k l[k])) ∧ Below W.heap.size W W') :
    Calls Try.prog 46 #[.slice A l.length c, .func (.func f) #[] cap] w fun r w' => r = .returned (.tuple #[.int .i64 (firstBadFrom chk 0 l).1, .int .i64 (firstBadFrom chk 0 l).2]) ∧ Below w.heap.size w w' := by
  have HC := hide hchk
  clear hchk
  go_enter Try.func46, Try.ntmps46
  go_wp2
  go_loopw [11] (fun i wr => ∃ k : Nat, k ≤ l.length ∧ i = .int .i64 k ∧ Below w.heap.size w wr ∧ Hid (∀ j (h : j < l.length), j < k → chk j l[j] = 0)) (fun i _ => l.length - (intOf i).toNat)
  case atStart => exact ⟨0, Nat.zero_le _, rfl, Below.refl _ _, fun _ _ h => by omega⟩
  case round =>
    obtain ⟨k, hk, rfl, hb, h0⟩ := hrel
    by_cases hlt : k < l.length
    · obtain ⟨b, off, rfl, hblt, hc0, hc1⟩ := (hr.bel hb).g_at hlt
      by_cases hz : chk k l[k] = 0
      · have H1 : Hid (∀ j (h : j < l.length), j < k + 1 → chk j l[j] = 0) := fun j h hj => by
          by_cases e : j = k
          · subst e; exact hz
          · exact h0.out j h (by omega)
        go_wp2_with (refine (HC.out k hlt _ (hb.alloc hb.size _)).mono ?_; rintro e w' ⟨rfl, hb1⟩)
        go_roundw
        case rel => exact ⟨k + 1, by omega, by go_num, tr (hb.alloc hb.size _) hb1 (by have := hb.size; first | omega | (simp; omega)), H1⟩
        case measure => simp [intOf]; omega
      · have H1 : Hid (firstBadFrom chk 0 l = ((k : Int), chk k l[k])) := by
          have := firstBadFrom_some chk l 0 k hlt (fun i hi => by simpa using h0.out i (by omega) hi) (by simpa using hz)
          show firstBadFrom chk 0 l = _; simpa using this
        go_wp2_with (refine (HC.out k hlt _ (hb.alloc hb.size _)).mono ?_; rintro e w' ⟨rfl, hb1⟩)
        go_ret2
        exact ⟨by rw [H1.out]; rfl, tr (hb.alloc hb.size _) hb1 (by have := hb.size; first | omega | (simp; omega))⟩
    · have H1 : Hid (firstBadFrom chk 0 l = (0, 0)) := firstBadFrom_none chk l 0 fun i hi => by simpa using h0.out i hi (by omega)
      go_wp2
      go_ret2
      exact ⟨by rw [H1.out]; rfl, hb⟩

/-- The error of an exchange. -/
def exE (x : PT) : Int := firstE [tickE x.1, tickE x.2.1, tickE x.2.2, errIf (decide (x.2.2 < x.1)) 9]
set_option maxHeartbeats 1000000 in
theorem checkExchange_c (s t r : Int) (w : World) :
    Calls Try.prog 42 #[.agg #[.int .i64 s, .int .i64 t, .int .i64 r]] w fun e w' => e = .returned (.int .i64 (exE (s, t, r))) ∧ Below w.heap.size w w' := by
  have hX := Blk.new w 57 [.int .i64 s, .int .i64 t, .int .i64 r]
  have hbel := alloc_bel w (.cells #[.int .i64 s, .int .i64 t, .int .i64 r] 57)
  generalize hW : w.alloc (.cells #[.int .i64 s, .int .i64 t, .int .i64 r] 57) = W at hX hbel
  have HW := hide hW
  clear hW
  have c0 := hX.cell 0; have c1 := hX.cell 1; have c2 := hX.cell 2; simp only [List.getElem?_cons_zero, List.getElem?_cons_succ] at c0 c1 c2
  have hzW := hX.lt
  go_enter Try.func42, Try.ntmps42
  go_wp2
  rw [HW.out]
  clear hX
  go_region_held3 (fun w' => (∀ b o, b < W.heap.size → w'.cell? ⟨b, o, none⟩ = W.cell? ⟨b, o, none⟩) ∧ Below W.heap.size W w')
    ((refine kp ?_; (repeat' (first | with_reducible exact Below.refl _ _ | with_reducible refine Below.drew ?_ | with_reducible refine bel_alloc ?_ ?_ _)); all_goals (first | omega | (simp <;> omega))))
    (first
      | (go_at_call 30; refine (tickError_c _ _).mono ?_; rintro e_ w_ ⟨rfl, rfl⟩)
      | (go_at_call 26; refine (errorIf_c _ _ _).mono ?_; rintro e_ w_ ⟨rfl, rfl⟩)
      | (go_at_call 27; refine (firstError_4D _ _ _ _ _).mono ?_; rintro e_ w_ ⟨rfl, rfl⟩)
      | (go_at_call 27; refine (firstError_4 _ _ _ _ _).mono ?_; rintro e_ w_ ⟨rfl, rfl⟩))
  go_wp2
  go_ret
  exact ⟨rfl, bel_tr hbel (by omega) (bel_alloc (Below.refl _ _) (Nat.le_refl _) _).drew⟩
theorem exchangesError1_c (k s t r : Int) (w : World) :
    Calls Try.prog 41 (#[.int .i64 k, .agg #[.int .i64 s, .int .i64 t, .int .i64 r]] ++ #[]) w fun e w' => e = .returned (.int .i64 (exE (s, t, r))) ∧ Below w.heap.size w w' := by
  rw [Array.append_empty]
  go_enter Try.func41, Try.ntmps41
  go_wp2_with (first | (go_at_call 42; refine (checkExchange_c _ _ _ _).mono ?_; rintro e_ w1 ⟨rfl, hb1⟩))
  go_ret
  exact ⟨rfl, bel_tr (alloc_bel _ _) (by simp) hb1⟩
/-- The error of exchanges. -/
def exsE (l : List PT) : Int := firstE [errIf ((l.length : Int) == 0) 10, errIf (decide (20 < (l.length : Int))) 8, (firstBadFrom (fun _ x => exE x) 0 l).2]
theorem exchangesError_c (A : Option Addr) (c : Nat) (l : List PT) (w : World) (hr : Rd w A (ps l)) (hl : l.length ≤ 1000) :
    Calls Try.prog 28 #[.slice A l.length c] w fun e w' => e = .returned (.int .i64 (exsE l)) ∧ Below w.heap.size w w' := by
  have HB := hide (fun W (h : Rd W A (ps l)) => firstBadX_c (fun _ x => exE x) 41 l A c #[] W h hl Try.call41 (fun k h W _ => exchangesError1_c _ _ _ _ _))
  have HR : Hid (exsE l = firstE [errIf ((l.length : Int) == 0) 10, errIf (decide (20 < (l.length : Int))) 8, (firstBadFrom (fun _ x => exE x) 0 l).2]) := rfl
  generalize (firstBadFrom (fun _ x => exE x) 0 l).1 = i at HB
  generalize (firstBadFrom (fun _ x => exE x) 0 l).2 = e at HB HR
  go_enter Try.func28, Try.ntmps28
  go_wp2_with (first | (go_at_call 40; refine (HB.out _ hr).mono ?_; rintro e_ w1 ⟨rfl, hb1⟩))
  go_upto_region 2 with fail
  go_wp2_with
    (first
      | (go_at_call 26; refine (errorIf_c _ _ _).mono ?_; rintro e_ w_ ⟨rfl, rfl⟩)
      | (go_at_call 27; refine (firstError_3 _ _ _ _).mono ?_; rintro e_ w_ ⟨rfl, rfl⟩))
  go_ret
  exact ⟨by rw [HR.out]; rfl, bel_tr hb1 hb1.size (alloc_bel _ _)⟩
end Go.Proofs.Ytnjdkdmfeonabaa
