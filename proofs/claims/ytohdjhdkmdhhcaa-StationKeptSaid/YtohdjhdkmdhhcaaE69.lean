/- Contracts: comparing, the first number that is not 0, how items are compared; the library's insertion sort laid over this program. -/
import Derived.Test.YtohdjhdkmdhhcaaE68
import Derived.Shelf.SlSortCmp.Insertion1
set_option linter.unusedSimpArgs false
set_option linter.unusedVariables false
set_option linter.unusedSimpArgs false
set_option linter.unusedVariables false
namespace Go.Proofs.Ytohdjhdkmdhhcaa
open Go.RowKit Go.Shelf Go.Sort
set_option maxRecDepth 100000

def insRen : Go.Shelf.Ren := ⟨fun | 20 => 97 | n => n, fun | 22 => 29 | 24 => 3 | 25 => 85 | n => n, fun n => n⟩
theorem insLays : SlLaysF.n20 Try.prog insRen := { mixed := by kernel_rfl, f20 := ⟨Try.f97.name, by decide, Try.func97.trans (congrArg some (by kernel_rfl))⟩, t0 := Try.underlying0, a0 := Try.isAgg0, z0 := Try.sizeOf0, v0 := Try.zeroValue0, t3 := Try.underlying3, a3 := Try.isAgg3, z3 := Try.sizeOf3, v3 := Try.zeroValue3, t4 := Try.underlying4, a4 := Try.isAgg4, z4 := Try.sizeOf4, v4 := Try.zeroValue4, t22 := Try.underlying29, a22 := Try.isAgg29, z22 := Try.sizeOf29, v22 := Try.zeroValue29, a24 := Try.isAgg3, z24 := Try.sizeOf3, t25 := Try.underlying85, a25 := Try.isAgg85, z25 := Try.sizeOf85, v25 := Try.zeroValue85 }

def cmpI (a b : Int) : Int := if a < b then -1 else if b < a then 1 else 0
theorem isNaN_c (a : Int) (w : World) : Calls Try.prog 85 #[.int .i64 a] w fun r w' => r = .returned (.bool false) ∧ w = w' := by
  have e : (a != a) = false := by simp
  go_enter Try.func85, Try.ntmps85
  go_wp2
  go_ret
  exact ⟨by first | rfl | simp, rfl⟩
theorem compare_c (a b : Int) (w : World) : Calls Try.prog 68 #[.int .i64 a, .int .i64 b] w fun r w' => r = .returned (.int .i64 (cmpI a b)) ∧ w = w' := by
  have HN := hide (fun x W => isNaN_c x W)
  obtain h | h | h := (show a < b ∨ b < a ∨ a = b by omega)
  · have HR : Hid (cmpI a b = -1) := by show _ = _; unfold cmpI; rw [if_pos h]
    go_enter Try.func68, Try.ntmps68
    go_wp2_with (first | (go_at_call 85; refine (HN.out _ _).mono ?_; rintro e_ w_ ⟨rfl, rfl⟩))
    go_ret
    exact ⟨by rw [HR.out]; rfl, rfl⟩
  · have HR : Hid (cmpI a b = 1) := by show _ = _; unfold cmpI; rw [if_neg (by omega), if_pos h]
    have h2 : ¬ a < b := by omega
    go_enter Try.func68, Try.ntmps68
    go_wp2_with (first | (go_at_call 85; refine (HN.out _ _).mono ?_; rintro e_ w_ ⟨rfl, rfl⟩))
    go_ret
    exact ⟨by rw [HR.out]; rfl, rfl⟩
  · have HR : Hid (cmpI a b = 0) := by show _ = _; unfold cmpI; rw [if_neg (by omega), if_neg (by omega)]
    have h2 : ¬ a < b := by omega
    have h3 : ¬ b < a := by omega
    clear h
    go_enter Try.func68, Try.ntmps68
    go_wp2_with (first | (go_at_call 85; refine (HN.out _ _).mono ?_; rintro e_ w_ ⟨rfl, rfl⟩))
    go_ret
    exact ⟨by rw [HR.out]; rfl, rfl⟩
theorem cmpOr_c (l : List Int) (A : Option Addr) (c : Nat) (w : World) (hr : Rd w A (ints l)) (hl : l.length ≤ 1000) :
    Calls Try.prog 67 #[.slice A l.length c] w fun r w' => r = .returned (.int .i64 (firstE l)) ∧ w = w' := by
  go_enter Try.func67, Try.ntmps67
  go_wp2
  go_loop [8] (fun i => ∃ k : Nat, k ≤ l.length ∧ i = .int .i64 k ∧ Hid (firstE (l.take k) = 0)) (fun i => l.length - (intOf i).toNat)
  case atStart => exact ⟨0, Nat.zero_le _, rfl, rfl⟩
  case round =>
    obtain ⟨k, hk, rfl, h0⟩ := hrel
    by_cases hlt : k < l.length
    · obtain ⟨b, off, rfl, hb, hc0⟩ := hr.int_at hlt
      by_cases hz : l[k] = 0
      · have H1 : Hid (firstE (l.take (k + 1)) = 0) := (firstE_take_succ l k hlt h0.out).trans hz
        have e1 : (l[k] != 0) = false := by simpa using hz
        go_wp2
        go_round
        case rel => exact ⟨k + 1, by omega, by go_num, H1⟩
        case measure => simp [intOf]; omega
      · have H1 : Hid (firstE l = l[k]) := by
          have h2 := firstE_take_succ l k hlt h0.out
          exact (firstE_of_take l (k + 1) (by rw [h2]; exact hz)).trans h2
        have e1 : (l[k] != 0) = true := by simpa using hz
        go_wp2
        go_ret
        exact ⟨by rw [H1.out]; rfl, rfl⟩
    · have H1 : Hid (firstE l = 0) := by
        have := h0.out
        rwa [List.take_of_length_le (by omega)] at this
      go_wp2
      go_ret
      exact ⟨by rw [H1.out]; rfl, rfl⟩
theorem cmpOr_2 (a b : Int) (w : World) : Calls Try.prog 67 #[.slice (some ⟨w.heap.size, 0, none⟩) 2 2] (w.alloc (.cells #[.int .i64 a, .int .i64 b] 3)) fun r w' => r = .returned (.int .i64 (firstE [a, b])) ∧ (w.alloc (.cells #[.int .i64 a, .int .i64 b] 3)) = w' :=
  cmpOr_c [a, b] _ _ _ (rd_new w 3 (ints [a, b])) (by simp)
theorem cmpOr_2D (a b : Int) (w : World) : Calls Try.prog 67 #[.slice (some ⟨w.heap.size, 0, none⟩) 2 2] (w.alloc (.cells #[.int .i64 a, .int .i64 b] 3)).drew fun r w' => r = .returned (.int .i64 (firstE [a, b])) ∧ (w.alloc (.cells #[.int .i64 a, .int .i64 b] 3)).drew = w' :=
  cmpOr_c [a, b] _ _ _ ((rd_new w 3 (ints [a, b])).drew) (by simp)

/-- How items i and k are compared. -/
def cfI (q : List IT) (i k : Nat) : Int := firstE [cmpI (itP q k) (itP q i), cmpI (itT q i) (itT q k)]
theorem cfI_wk (q : List IT) (i k : Nat) : decide (cfI q i k < 0) = wkI q i k := by
  unfold cfI wkI cmpI firstE
  by_cases h1 : itP q i = itP q k
  · rw [h1]
    by_cases h2 : itT q i < itT q k
    · simp [h2, firstE]
    · by_cases h3 : itT q k < itT q i <;> simp [h2, h3, firstE]
  · by_cases h2 : itP q k < itP q i
    · simp [h1, h2]
    · have h3 : itP q i < itP q k := by omega
      simp [h1, h2, h3]
set_option maxHeartbeats 4000000 in
theorem orderOf1_c (q : List IT) (i k : Nat) (A : Option Addr) (c : Nat) (Bq : Nat) (w : World) (hX : w.cell? ⟨Bq, 0, none⟩ = some (.slice A q.length c)) (hr : Rd w A (its q)) (hi : i < q.length) (hk : k < q.length) (hl : q.length ≤ 1000) :
    Calls Try.prog 66 (#[.int .i64 (i : Int), .int .i64 (k : Int)] ++ #[.pointer (some ⟨Bq, 0, none⟩)]) w fun r w' => r = .returned (.int .i64 (cfI q i k)) ∧ ∃ n os, w' = grow (w.drewN n) os := by
  rw [show (#[.int .i64 (i : Int), .int .i64 (k : Int)] ++ #[.pointer (some ⟨Bq, 0, none⟩)] : Array Value) = #[.int .i64 (i : Int), .int .i64 (k : Int), .pointer (some ⟨Bq, 0, none⟩)] from rfl]
  obtain ⟨b, off, rfl, hblt, x0, x1, x2, x3⟩ := hr.it_at hi
  obtain ⟨_, _, e', _, y0, y1, y2, y3⟩ := hr.it_at hk
  injection e' with e'
  injection e' with eb eo
  subst eb eo
  have p1 := itP_at hi
  have p2 := itP_at hk
  have t1 := itT_at hi
  have t2 := itT_at hk
  have HR : Hid (cfI q i k = firstE [cmpI q[k].2.1 q[i].2.1, cmpI q[i].2.2.2 q[k].2.2.2]) := by show _ = _; rw [← p1, ← p2, ← t1, ← t2]; rfl
  have j1 : (i : Int) < (q.length : Int) := by omega
  have j2 : (k : Int) < (q.length : Int) := by omega
  have hzq := World.block_lt_of_cell? _ _ hX
  clear p1 p2 t1 t2 hr
  generalize q[i].2.1 = P1 at x1 HR
  generalize q[k].2.1 = P2 at y1 HR
  generalize q[i].2.2.2 = T1 at x3 HR
  generalize q[k].2.2.2 = T2 at y3 HR
  clear x0 x2 y0 y2
  go_enter Try.func66, Try.ntmps66
  go_wp2
  go_region_held3 (fun w' => (∀ b o, b < w.heap.size → w'.cell? ⟨b, o, none⟩ = w.cell? ⟨b, o, none⟩) ∧ Below w.heap.size w w')
    ((refine kp ?_; (repeat' (first | with_reducible exact Below.refl _ _ | with_reducible refine Below.drew ?_ | with_reducible refine bel_alloc ?_ ?_ _)); all_goals (first | omega | (simp <;> omega))))
    (first
      | (go_at_call 68; refine (compare_c _ _ _).mono ?_; rintro e_ w_ ⟨rfl, rfl⟩)
      | (go_at_call 67; refine (cmpOr_2D _ _ _).mono ?_; rintro e_ w_ ⟨rfl, rfl⟩)
      | (go_at_call 67; refine (cmpOr_2 _ _ _).mono ?_; rintro e_ w_ ⟨rfl, rfl⟩))
  all_goals
    go_wp2
    go_ret
    refine ⟨by rw [HR.out]; rfl, 1, #[.cells #[.int .i64 (cmpI P2 P1), .int .i64 (cmpI T1 T2)] 3], ?_⟩
    rw [alloc_eq_grow]
    exact drew_grow _ _

/-- A row's block lies beyond what is kept: the sort turns that block alone. -/
theorem sw_below {α : Type} [Inhabited α] {enc : α → Value} {w w0 W : World} {n blk off : Nat} {dk : Array α} (hB : RowKit.Below n w w0) (hn : n ≤ blk) (h : SW enc w0 blk off dk W) (hz : n ≤ w0.heap.size) : RowKit.Below n w W := by
  obtain ⟨m, os, rfl⟩ := h
  refine hB.trans ?_
  unfold sortWorld
  refine ⟨rfl, rfl, rfl, ?_, fun k hk => ?_⟩
  · rw [size_grow, size_putRow]
    show w0.heap.size ≤ w0.heap.size + _
    omega
  · show ((mapBlock (Sort.ahead w0 m) blk _).heap ++ os)[k]? = _
    rw [Array.getElem?_append_left (by simp only [mapBlock, Array.size_modify]; show k < w0.heap.size; omega)]
    simp only [mapBlock, Array.getElem?_modify]
    rw [if_neg (by omega)]
    rfl
theorem sw_cell {α : Type} [Inhabited α] {enc : α → Value} {w0 : World} {blk off m : Nat} {dk : Array α} {os : Array Obj} {p : Addr} (hp : p.block ≠ blk) (hz : p.block < w0.heap.size) : (sortWorld enc w0 blk off m dk os).cell? p = w0.cell? p := by
  unfold sortWorld
  rw [cell?_grow _ _ _ (by rw [size_putRow]; exact hz), cell?_putRow_other _ _ _ _ _ _ (.inl hp)]
  rfl
end Go.Proofs.Ytohdjhdkmdhhcaa
