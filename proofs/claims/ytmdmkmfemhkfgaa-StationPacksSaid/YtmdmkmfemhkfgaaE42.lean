/- Contracts: sums of differences, checked series, the reference's copies. -/
import Derived.Test.YtmdmkmfemhkfgaaE41
set_option linter.unusedSimpArgs false
set_option linter.unusedVariables false
set_option linter.unusedSimpArgs false
set_option linter.unusedVariables false
namespace Go.Proofs.Ytmdmkmfemhkfgaa
open Go.RowKit
set_option maxRecDepth 100000

/-- The sums of differences, from a number on: none if one is too great. -/
def sumF : Int → List Int → Option (List Int)
  | _, [] => some []
  | b, x :: l => if outB x (-1000000000 - b) (1000000000 - b) then none else (sumF (b + x) l).map ((b + x) :: ·)
theorem sumF_drop (b : Int) (l : List Int) (k : Nat) (h : k < l.length) : sumF b (l.drop k) = if outB l[k] (-1000000000 - b) (1000000000 - b) then none else (sumF (b + l[k]) (l.drop (k + 1))).map ((b + l[k]) :: ·) := by
  rw [List.drop_eq_getElem_cons h]
  rfl
theorem sumF_length : ∀ (b : Int) (l out : List Int), sumF b l = some out → out.length = l.length
  | _, [], out, h => by simp [sumF] at h; simp [← h]
  | b, x :: l, out, h => by
    unfold sumF at h
    split at h
    · cases h
    · rw [Option.map_eq_some_iff] at h
      obtain ⟨o, h1, rfl⟩ := h
      simp [sumF_length _ l o h1]
/-- What summed returns. -/
def SumPost (res : Option (List Int)) (w : World) (r : Ending) (w' : World) : Prop :=
  (match res with
   | none => r = .returned (.tuple #[.slice none 0 0, .int .i64 2])
   | some out => ∃ A' c', r = .returned (.tuple #[.slice A' out.length c', .int .i64 0]) ∧ Rd w' A' (ints out)) ∧ Below w.heap.size w w'
set_option maxHeartbeats 1000000 in
theorem summed_c (l : List Int) (A : Option Addr) (c : Nat) (w : World) (hr : Rd w A (ints l)) (hl : l.length ≤ 1000) :
    Calls Try.prog 66 #[.slice A l.length c] w (SumPost (sumF 0 l) w) := by
  obtain ⟨i0, hi, iz0, iz1, iz2⟩ := info_parts Try.infoN
  go_enter Try.func66, Try.ntmps66
  go_wp2
  go_loopw [4, 5, 11] (fun v b x wr => ∃ k : Nat, ∃ y : Int, ∃ D : List Int, k ≤ l.length ∧ x = .int .i64 k ∧ b = .int .i64 y ∧ -1000000000 ≤ y ∧ y ≤ 1000000000 ∧ D.length = k ∧ Hid (sumF 0 l = (sumF y (l.drop k)).map (D ++ ·)) ∧ Below w.heap.size w wr ∧ wr.ownsRow w.heap.size 3 1 v D.length (ints D)) (fun _ _ x _ => l.length - (intOf x).toNat)
  case atStart => exact ⟨0, 0, [], Nat.zero_le _, rfl, rfl, by omega, by omega, rfl, by show _ = _; simp, Below.refl _ _, World.ownsRow_nil _ _ _ _⟩
  case round =>
    obtain ⟨k, y, D, hk, rfl, rfl, hy0, hy1, hD, hy, hbr, hown⟩ := hrel
    have hsz := hbr.size
    by_cases hlt : k < l.length
    · obtain ⟨b, off, rfl, hblt, x0⟩ := (hr.bel hbr).int_at hlt
      have HN := hide (sumF_drop y l k hlt)
      have iL : (k : Int) < (l.length : Int) := by omega
      generalize l[k] = x at x0 HN
      cases hob : outB x (-1000000000 - y) (1000000000 - y)
      · have hxb := outB_false.1 hob
        have H1 : Hid (sumF 0 l = (sumF (y + x) (l.drop (k + 1))).map ((D ++ [y + x]) ++ ·)) := by
          show _ = _
          rw [hy.out, HN.out, hob, if_neg Bool.false_ne_true, Option.map_map]
          congr 1
          funext z
          simp
        have hE : errIf (outB x (-1000000000 - y) (1000000000 - y)) 2 = 0 := by rw [hob]; rfl
        clear HN hy
        go_wp2_with (first
          | (go_at_call 69; refine (rangeError_c _ _ _ _).mono ?_; rintro e_ w_ ⟨rfl, rfl⟩; rw [hE])
          | (at_builtin; refine wpList_append_own _ rfl _ _ 47 rfl w.heap.size 3 i0 _ 1 8 Try.underlying47 hi iz0 iz1 iz2 rfl (by decide) _ _ _ rfl (hown.alloc _) ⟨wr.heap.size, 0, none⟩ 1 1 [.int .i64 (y + x)] rfl rfl (World.news_of_block (heap_alloc_new wr _)) (by simp [Value.oneCell']) (by unfold maxLen; omega) (by omega) (by simp; omega) ?_; intro v' w8 hown8 hg8 _))
        have hb8 : Below w.heap.size w w8 := (bel_alloc hbr hsz _).grown hg8 (by simp; omega) (fun j hj => by have := (hown.lt j hj).1; omega)
        go_roundw
        case rel => exact ⟨k + 1, y + x, D ++ [y + x], by omega, by go_num, rfl, by omega, by omega, by simp [hD], H1, hb8, by rw [ints_append, List.length_append]; exact hown8⟩
        case measure => simp [intOf]; omega
      · have H1 : Hid (sumF 0 l = none) := by show _ = _; rw [hy.out, HN.out, hob]; rfl
        have hE : errIf (outB x (-1000000000 - y) (1000000000 - y)) 2 = 2 := by rw [hob]; rfl
        clear HN hy
        go_wp2_with (first
          | (go_at_call 69; refine (rangeError_c _ _ _ _).mono ?_; rintro e_ w_ ⟨rfl, rfl⟩; rw [hE]))
        go_ret2
        exact ⟨by rw [H1.out]; rfl, hbr⟩
    · obtain rfl : k = l.length := by omega
      obtain ⟨A', c', rfl⟩ := ownsRow_slice hown
      have hrw := Rd.of_own hown
      have H1 : Hid (sumF 0 l = some D) := by
        show _ = _
        rw [hy.out, List.drop_eq_nil_of_le (Nat.le_refl _)]
        simp [sumF]
      clear hy
      go_wp2
      go_ret2
      exact ⟨by rw [H1.out]; exact ⟨A', c', rfl, hrw⟩, hbr⟩
theorem checkedSeries_ok (A : Option Addr) (c : Nat) (l : List Int) (w : World) (hr : Rd w A (ints l)) (hl : l.length ≤ 1000) (h : serE l = 0) :
    Calls Try.prog 64 #[.slice A l.length c] w fun e w' => e = .returned (.tuple #[.slice A l.length c, .int .i64 0]) ∧ Below w.heap.size w w' := by
  have HS := hide (seriesError_c A c l w hr hl)
  rw [h] at HS
  go_enter Try.func64, Try.ntmps64
  go_wp2_with (first | (go_at_call 59; refine HS.out.mono ?_; rintro e_ w1 ⟨rfl, hb1⟩))
  go_ret2
  exact ⟨rfl, hb1⟩
theorem checkedSeries_bad (A : Option Addr) (c : Nat) (l : List Int) (w : World) (hr : Rd w A (ints l)) (hl : l.length ≤ 1000) (h : serE l ≠ 0) :
    Calls Try.prog 64 #[.slice A l.length c] w fun e w' => e = .returned (.tuple #[.slice none 0 0, .int .i64 (serE l)]) ∧ Below w.heap.size w w' := by
  have HS := hide (seriesError_c A c l w hr hl)
  generalize serE l = e at HS h ⊢
  have e1 : (e != 0) = true := by simpa using h
  clear h
  go_enter Try.func64, Try.ntmps64
  go_wp2_with (first | (go_at_call 59; refine HS.out.mono ?_; rintro e_ w1 ⟨rfl, hb1⟩))
  go_ret2
  exact ⟨rfl, hb1⟩
end Go.Proofs.Ytmdmkmfemhkfgaa
