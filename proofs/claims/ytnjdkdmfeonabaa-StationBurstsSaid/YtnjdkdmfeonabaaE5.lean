/- Contracts: series, their differences and runs. -/
import Derived.Test.YtnjdkdmfeonabaaE4
import Derived.Laws.Cover3
set_option linter.unusedSimpArgs false
set_option linter.unusedVariables false
set_option linter.unusedSimpArgs false
set_option linter.unusedVariables false
namespace Go.Proofs.Ytnjdkdmfeonabaa
open Go.RowKit
set_option maxRecDepth 100000

theorem Try.infoN : (Try.prog.info? 3).map (fun i => (i.zero, i.size, i.bytes)) = some (some (.int .i64 0), 1, 8) := by kernel_rfl

/-- The errors of a length and of a series. -/
def slenE (n : Nat) : Int := errIf (decide (200 < (n : Int))) 8
def serE (l : List Int) : Int := firstE [slenE l.length, (firstBadFrom (fun _ n => errIf (outB n (-1000000000) 1000000000) 2) 0 l).2]
theorem lengthError_c (A : Option Addr) (n c : Nat) (w : World) (hn : n ≤ 1000000) :
    Calls Try.prog 35 #[.slice A n c] w fun e w' => e = .returned (.int .i64 (slenE n)) ∧ w = w' := by
  go_enter Try.func35, Try.ntmps35
  go_wp2_with (first | (go_at_call 26; refine (errorIf_c _ _ _).mono ?_; rintro e_ w_ ⟨rfl, rfl⟩))
  go_ret
  exact ⟨rfl, rfl⟩
theorem seriesError1_c (k n : Int) (w : World) :
    Calls Try.prog 33 (#[.int .i64 k, .int .i64 n] ++ #[]) w fun e w' => e = .returned (.int .i64 (errIf (outB n (-1000000000) 1000000000) 2)) ∧ Below w.heap.size w w' := by
  rw [Array.append_empty]
  go_enter Try.func33, Try.ntmps33
  go_wp2_with (first | (go_at_call 34; refine (rangeError_c _ _ _ _).mono ?_; rintro e_ w_ ⟨rfl, rfl⟩))
  go_ret
  exact ⟨rfl, Below.refl _ _⟩
theorem seriesError_c (A : Option Addr) (c : Nat) (l : List Int) (w : World) (hr : Rd w A (ints l)) (hl : l.length ≤ 1000) :
    Calls Try.prog 20 #[.slice A l.length c] w fun e w' => e = .returned (.int .i64 (serE l)) ∧ Below w.heap.size w w' := by
  have HB := hide (fun W (h : Rd W A (ints l)) => firstBadI_c (fun _ n => errIf (outB n (-1000000000) 1000000000) 2) 33 l A c #[] W h hl Try.call33 (fun k h W _ => seriesError1_c _ _ _))
  have HR : Hid (serE l = firstE [slenE l.length, (firstBadFrom (fun _ n => errIf (outB n (-1000000000) 1000000000) 2) 0 l).2]) := rfl
  generalize (firstBadFrom (fun _ n => errIf (outB n (-1000000000) 1000000000) 2) 0 l).1 = i at HB
  generalize (firstBadFrom (fun _ n => errIf (outB n (-1000000000) 1000000000) 2) 0 l).2 = e at HB HR
  go_enter Try.func20, Try.ntmps20
  go_wp2_with (first
    | (go_at_call 32; refine (HB.out _ hr).mono ?_; rintro e_ w1 ⟨rfl, hb1⟩)
    | (go_at_call 35; refine (lengthError_c _ _ _ _ (by omega)).mono ?_; rintro e_ w_ ⟨rfl, rfl⟩)
    | (go_at_call 27; refine (firstError_2 _ _ _).mono ?_; rintro e_ w_ ⟨rfl, rfl⟩))
  go_ret
  exact ⟨by rw [HR.out]; rfl, bel_tr hb1 hb1.size (alloc_bel _ _)⟩

theorem eql_nil {P : Program} (t e : TypeId) (a : Option Addr) (l c : Nat) (h : P.underlying t = some (.slice e)) (w : World) : (binOp .eql t (.slice a l c) (.slice none 0 0)).run P w = .ok (.bool a.isNone) w := by
  simp only [binOp]
  simp [run_equal_slice_nil w t e a l c h]
theorem RdT.set {w : World} {t e : TypeId} {A : Option Addr} {xs cs : List Value} {g : Nat} (h : RdT w t A xs) (hb : Blk w g e cs) (hne : t ≠ e) (i : Nat) (u : Value) : RdT (w.setCell ⟨g, i, none⟩ u) t A xs := h.keep (KeepT.setCell hb hne i u)
theorem own_capI {w : World} {base : Nat} {e : TypeId} {size n m c : Nat} {A : Option Addr} {xs : List Value} (h : w.ownsRow base e size (.slice A m c) n xs) : n ≤ c := by
  rcases h.2 with ⟨h', h0⟩ | ⟨g, cap, cur, h', _, _, hnc, _⟩
  · omega
  · cases h'
    exact hnc
theorem clone_c (l : List Int) (A : Option Addr) (c : Nat) (w : World) (hr : Rd w A (ints l)) (hl : l.length ≤ 1000) :
    Calls Try.prog 21 #[.slice A l.length c] w fun r w' => (∃ A' c', r = .returned (.slice A' l.length c') ∧ RdT w' 3 A' (ints l) ∧ l.length ≤ c') ∧ Below w.heap.size w w' := by
  obtain ⟨i0, hi, iz0, iz1, iz2⟩ := info_parts Try.infoN
  cases A with
  | none =>
    have h0 : l = [] := by
      by_cases h : l = []
      · exact h
      · obtain ⟨_, _, h1, _⟩ := hr (by intro e; exact h (by simpa [ints] using e))
        cases h1
    subst h0
    have hq : ∀ W, (binOp .eql 36 (.slice none 0 c) (.slice none 0 0)).run Try.prog W = .ok (.bool true) W := fun W => eql_nil _ _ _ _ _ Try.underlying36 W
    simp only [List.length_nil]
    go_enter Try.func21, Try.ntmps21
    go_wp2
    go_ret
    exact ⟨⟨none, 0, rfl, ⟨Rd.nil _ _, fun _ _ e => by cases e⟩, by simp⟩, Below.refl _ _⟩
  | some a =>
    have hq : ∀ W, (binOp .eql 36 (.slice (some a) l.length c) (.slice none 0 0)).run Try.prog W = .ok (.bool false) W := fun W => eql_nil _ _ _ _ _ Try.underlying36 W
    go_enter Try.func21, Try.ntmps21
    go_wp2_with (first | (at_builtin; refine wpList_append_rd _ rfl _ _ 36 rfl w.heap.size 3 i0 (.int .i64 0) 1 8 Try.underlying36 hi iz0 iz1 iz2 rfl (by decide) (.slice (some ⟨w.heap.size, 0, none⟩) 0 0) 0 [] rfl (World.ownsRow_made w #[] 0 (Nat.le_refl _) (by unfold maxLen; omega) rfl) (some a) l.length c (ints l) rfl (by simp) (hr.alloc _) (ints_one l) (by unfold maxLen; omega) (by omega) (by simp) ?_; intro v' w1 hown1 hg1))
    obtain ⟨A', c', rfl⟩ := ownsRow_slice hown1
    have hb : Below w.heap.size w w1 := ((Below.refl _ _).alloc (Nat.le_refl _) (.cells #[] 3)).grown hg1 (by simp) (by simp [Value.ownBlock])
    go_ret
    exact ⟨⟨A', c', by rw [Nat.zero_add]; rfl, by simpa using RdT.of_own hown1, by have := own_capI hown1; omega⟩, hb⟩

/-- The runs of numbers: y was read n times, then l follows. -/
def runsFrom (y n : Int) : List Int → List G
  | [] => [(y, n)]
  | x :: l => if x = y then runsFrom y (n + 1) l else (y, n) :: runsFrom x 1 l
def runsL : List Int → List G
  | [] => []
  | x :: l => runsFrom x 1 l
/-- Runs as they are written. -/
def flat (l : List G) : List Int := l.flatMap fun g => [g.1, g.2]
theorem flat_snoc (l : List G) (g : G) : flat (l ++ [g]) = flat l ++ [g.1, g.2] := by simp [flat]
theorem flat_length (l : List G) : (flat l).length = 2 * l.length := by
  induction l with
  | nil => rfl
  | cons g l ih => simp only [flat, List.flatMap_cons, List.length_append, List.length_cons, List.length_nil] at ih ⊢; omega
theorem runsFrom_length (y n : Int) (l : List Int) : (runsFrom y n l).length ≤ l.length + 1 := by
  induction l generalizing y n with
  | nil => simp [runsFrom]
  | cons x l ih =>
    simp only [runsFrom]
    split
    · have := ih y (n + 1); simp; omega
    · have := ih x 1; simp; omega
theorem runsL_length (l : List Int) : (runsL l).length ≤ l.length := by
  cases l with
  | nil => simp [runsL]
  | cons x l => have := runsFrom_length x 1 l; simpa [runsL] using this

theorem runs_c (A : Option Addr) (n c : Nat) (w : World) :
    Calls Try.prog 36 #[.slice A n c] w fun r w' => r = .returned (.func (.func 45) #[] #[.pointer (some ⟨w.heap.size, 0, none⟩)]) ∧ w.alloc (.cells #[.slice A n c] 36) = w' := by
  go_enter Try.func36, Try.ntmps36
  go_wp2
  go_ret
  exact ⟨rfl, rfl⟩

/-- The arguments are a run. -/
def IsRun (g : G) (args : Array Value) (_ : World) : Prop := args = #[.int .i64 g.1, .int .i64 g.2]

theorem runs_iter (n Bn : Nat) (hn : 1 ≤ n) (l : List Int) (A : Option Addr) (c : Nat) (hl : l.length ≤ 1000) (S : Nat → Prop) (hS : S Bn) (hSA : ints l ≠ [] → ∀ b off, A = some ⟨b, off, none⟩ → S b) (w : World) (hc : w.cell? ⟨Bn, 0, none⟩ = some (.slice A l.length c)) (hr : Rd w A (ints l)) :
    Iter Try.prog n 45 #[.pointer (some ⟨Bn, 0, none⟩)] IsRun (runsL l) S w := by
  intro l' J W hk hJ hY h0
  have hcW : W.cell? ⟨Bn, 0, none⟩ = some (.slice A l.length c) := (hk.cell (p := ⟨Bn, 0, none⟩) hS).trans hc
  have hrW := hr.keepS hSA hk
  have HY := hide hY
  clear hY hc hr
  refine callsIn_of_wp Try.func45 rfl trivial ?_ rfl
  simp only [Try.ntmps45, List.size_toArray, List.length_cons, List.length_nil, Nat.reduceAdd, Nat.reduceSub, Array.replicate_succ, Array.replicate_zero, List.push_toArray, List.append_toArray, List.nil_append, List.cons_append]
  gi_wp2
  gi_loopw [3, 4] (fun b e wr => ∃ B E : Nat, ∃ pre : List G, b = .int .i64 B ∧ e = .int .i64 E ∧ 1 ≤ E ∧ E ≤ l.length + 1 ∧ wr.cell? ⟨Bn, 0, none⟩ = some (.slice A l.length c) ∧ Rd wr A (ints l) ∧ J pre wr ∧ (E = l.length + 1 → runsL l = pre) ∧ (E ≤ l.length → B < E ∧ Hid (∃ h : B < l.length, runsL l = pre ++ runsFrom l[B] ((E : Int) - B) (l.drop E)))) (fun _ e _ => l.length + 1 - (intOf e).toNat)
  case atStart =>
    refine ⟨0, 1, [], rfl, rfl, by omega, by omega, hcW, hrW, h0, fun h => ?_, fun h => ⟨by omega, ?_, ?_⟩⟩
    · rw [List.eq_nil_of_length_eq_zero (by omega : l.length = 0)]; rfl
    · omega
    · cases l with
      | nil => simp at h
      | cons x l => simp [runsL]
  case round =>
    obtain ⟨B, E, pre, rfl, rfl, hE1, hE2, hcr, hrr, hj, hdone, hgo⟩ := hrel
    by_cases hlt : E ≤ l.length
    · obtain ⟨hBE, hrun⟩ := hgo hlt
      have hBl : B < l.length := by omega
      obtain ⟨b, off, rfl, hblt, xB⟩ := hrr.int_at hBl
      have hcB : Bn < wr.heap.size := World.block_lt_of_cell? _ _ hcr
      have HSA := hide hSA
      have i0 : (B : Int) < (l.length : Int) := by omega
      have u0 : IntKind.i64.wrap ((E : Int) - (B : Int)) = (E : Int) - (B : Int) := by simp (disch := omega) only [IntWalk.i64_in]
      by_cases hlt2 : E < l.length
      · obtain ⟨_, _, e', hblt', xE⟩ := hrr.int_at hlt2
        injection e' with e'
        injection e' with eb eo
        subst eb eo
        have HD : Hid (l.drop E = l[E] :: l.drop (E + 1)) := List.drop_eq_getElem_cons hlt2
        have i1 : (E : Int) < (l.length : Int) := by omega
        have p1 : decide ((E : Int) < (l.length : Int)) = true := decide_eq_true i1
        have hz : Hid (∀ h : B < l.length, l[B] = l[B]'hBl) := fun _ => rfl
        by_cases heq : l[E] = l[B]'hBl
        · have HRN : Hid (∃ h : B < l.length, runsL l = pre ++ runsFrom l[B] (((E + 1 : Nat) : Int) - B) (l.drop (E + 1))) := by
            obtain ⟨h, e⟩ := hrun.out
            rw [HD.out, runsFrom, if_pos heq] at e
            refine ⟨h, ?_⟩
            rw [show ((E + 1 : Nat) : Int) - B = (E : Int) - B + 1 by omega]
            exact e
          have e2 : (l[E] == l[B]'hBl) = true := by simpa using heq
          clear hrun heq HY
          generalize l[E] = vE at xE e2
          generalize l[B]'hBl = vB at xB e2
          refine wpIn_wide.2 ?_
          go_wp2
          go_quiet (fail)
          go_wp2
          go_roundw
          case rel => exact ⟨B, E + 1, pre, rfl, by go_num, by omega, by omega, hcr, hrr, hJ _ _ _ hj (below_drewN (Below.refl _ _) _), fun h => by omega, fun _ => ⟨by omega, HRN⟩⟩
          case measure => simp [intOf]; omega
        · have e2 : (l[E] == l[B]'hBl) = false := by simpa using heq
          have HX : Hid (runsL l = pre ++ (l[B]'hBl, (E : Int) - B) :: runsFrom l[E] 1 (l.drop (E + 1))) := by
            obtain ⟨h, e⟩ := hrun.out
            rw [HD.out, runsFrom, if_neg heq] at e
            exact e
          have HRN : Hid (∃ h : E < l.length, runsL l = (pre ++ [(l[B]'hBl, (E : Int) - B)]) ++ runsFrom l[E] (((E + 1 : Nat) : Int) - E) (l.drop (E + 1))) := by
            refine ⟨hlt2, ?_⟩
            rw [show ((E + 1 : Nat) : Int) - E = 1 by omega, List.append_assoc]
            exact HX.out
          clear hrun heq
          generalize l[E] = vE at xE e2 HX
          generalize l[B]'hBl = vB at xB e2 HX HRN
          refine wpIn_wide.2 ?_
          go_wp2
          go_quiet (fail)
          go_upto_region 5 with fail
          refine (wpIn_wide (n := n)).1 ?_
          gi_wp2
          obtain ⟨fn, tmps, assign, body, hy, hR⟩ := HY.out pre (vB, (E : Int) - B) (runsFrom vE 1 (l.drop (E + 1))) (wr.drewN nq) #[.int .i64 vB, .int .i64 _] (HX.out) (hJ _ _ _ hj (below_drewN (Below.refl _ _) _)) rfl
          rw [hy, Oper.uponIn_round]
          refine ⟨fun h => (by cases h), ?_⟩
          refine hR.mono ?_
          rintro e W3 ⟨rfl, hJ3, hk3⟩
          have hc3 : W3.cell? ⟨Bn, 0, none⟩ = some (.slice (some ⟨b, off, none⟩) l.length c) := (hk3.cell (p := ⟨Bn, 0, none⟩) hS).trans hcr
          have hr3 : Rd W3 (some ⟨b, off, none⟩) (ints l) := Rd.keepS (w := wr.drewN nq) hrr HSA.out hk3
          gi_wp2
          go_wp2
          go_roundw
          case rel => exact ⟨E, E + 1, pre ++ [(vB, (E : Int) - B)], by go_num, by go_num, by omega, by omega, hc3, hr3, hJ3, fun h => by omega, fun _ => ⟨by omega, HRN⟩⟩
          case measure => simp [intOf]; omega
      · obtain rfl : E = l.length := by omega
        have p1 : decide ((l.length : Int) < (l.length : Int)) = false := decide_eq_false (by omega)
        have HX : Hid (runsL l = pre ++ (l[B]'hBl, (l.length : Int) - B) :: []) := by
          obtain ⟨h, e⟩ := hrun.out
          rw [List.drop_length, runsFrom] at e
          exact e
        clear hrun
        generalize l[B]'hBl = vB at xB HX
        refine wpIn_wide.2 ?_
        go_wp2
        go_quiet (fail)
        go_upto_region 5 with fail
        refine (wpIn_wide (n := n)).1 ?_
        gi_wp2
        obtain ⟨fn, tmps, assign, body, hy, hR⟩ := HY.out pre (vB, (l.length : Int) - B) [] (wr.drewN nq) #[.int .i64 vB, .int .i64 _] (HX.out) (hJ _ _ _ hj (below_drewN (Below.refl _ _) _)) rfl
        rw [hy, Oper.uponIn_round]
        refine ⟨fun h => (by cases h), ?_⟩
        refine hR.mono ?_
        rintro e W3 ⟨rfl, hJ3, hk3⟩
        have hc3 : W3.cell? ⟨Bn, 0, none⟩ = some (.slice (some ⟨b, off, none⟩) l.length c) := (hk3.cell (p := ⟨Bn, 0, none⟩) hS).trans hcr
        have hr3 : Rd W3 (some ⟨b, off, none⟩) (ints l) := Rd.keepS (w := wr.drewN nq) hrr HSA.out hk3
        gi_wp2
        go_wp2
        go_roundw
        case rel => exact ⟨l.length, l.length + 1, pre ++ [(vB, (l.length : Int) - B)], by go_num, by go_num, by omega, by omega, hc3, hr3, hJ3, fun _ => HX.out, fun h => by omega⟩
        case measure => simp [intOf]
    · obtain rfl : E = l.length + 1 := by omega
      have HZ := hide (hdone rfl)
      clear hdone hgo
      gi_wp2
      go_end0
      exact ⟨⟨_, rfl⟩, by rw [HZ.out]; exact hj⟩
end Go.Proofs.Ytnjdkdmfeonabaa
