/- Contracts: errors of waves; new lines. -/
import Derived.Test.YtmedjedmeggbpaaDoorW12
namespace Go.Proofs.YtmedjedmeggbpaaDoor
open Go.RowKit
set_option maxRecDepth 100000

/-- The error of a wave. -/
def waveItem (g : Int × Int) : Int := errIf (!isPow g) 3
def waveErr (l : List (Int × Int)) : Int := if lenE l.length 32 = 0 then (firstBadFrom (fun _ g => waveItem g) 0 l).2 else lenE l.length 32

theorem waveErr_zero {l : List (Int × Int)} (h : waveErr l = 0) : 1 ≤ l.length ∧ l.length ≤ 32 ∧ ∀ g ∈ l, isPow g = true := by
  unfold waveErr at h
  by_cases h1 : lenE l.length 32 = 0
  · rw [if_pos h1] at h
    rw [lenE_eq] at h1
    refine ⟨?_, ?_, fun g hg => ?_⟩
    · split at h1 <;> omega
    · split at h1
      · omega
      · split at h1 <;> omega
    · obtain ⟨i, hi, rfl⟩ := List.getElem_of_mem hg
      have := firstBadFrom_zero h i hi
      unfold waveItem errIf at this
      cases hp : isPow l[i]
      · rw [hp] at this; simp at this
      · rfl
  · rw [if_neg h1] at h; exact absurd h h1

theorem isPow_turn {g : Int × Int} (h : isPow g = true) : ∃ k, k < 4 ∧ g = turnG k := by
  simp only [isPow, Bool.or_eq_true, beq_iff_eq] at h
  rcases h with ((rfl | rfl) | rfl) | rfl
  · exact ⟨0, by omega, rfl⟩
  · exact ⟨1, by omega, rfl⟩
  · exact ⟨2, by omega, rfl⟩
  · exact ⟨3, by omega, rfl⟩

theorem waveError1_c (k a b : Int) (w : World) (hT : Tab w) :
    Calls Tryd.prog 142 (#[.int .i64 k, .agg #[.int .i64 a, .int .i64 b]] ++ #[]) w fun r w' => r = .returned (.int .i64 (waveItem (a, b))) ∧ Below w.heap.size w w' := by
  rw [show (#[.int .i64 k, .agg #[.int .i64 a, .int .i64 b]] ++ #[] : Array Value) = #[.int .i64 k, .agg #[.int .i64 a, .int .i64 b]] from rfl]
  have H : Hid (waveItem (a, b) = errIf (!isPow (a, b)) 3) := rfl
  go_enter Tryd.func142, Tryd.ntmps142
  go_upto_region 1 with fail
  generalize hW : w.alloc (.cells #[.int .i64 a, .int .i64 b] 76) = W
  have hB : Below w.heap.size w W := by rw [← hW]; exact (Below.refl _ _).alloc (Nat.le_refl _) _
  have hX : Blk W w.heap.size 76 [.int .i64 a, .int .i64 b] := by rw [← hW]; exact Blk.new w 76 [.int .i64 a, .int .i64 b]
  have hTW := hT.bel hB
  clear hW
  have c0 := hX.cell 0
  have c1 := hX.cell 1
  simp only [List.getElem?_cons_zero, List.getElem?_cons_succ] at c0 c1
  go_wp2_with (first | (go_at_call 143; refine (isPowerOfI_c a b _ hTW).mono ?_; rintro e w1 ⟨rfl, hb1⟩) | (go_at_call 93; refine (errorIf_c _ _ _).mono ?_; rintro e_ w_ ⟨rfl, rfl⟩) | (go_at_call 94; refine (outside_c _ _ _ _).mono ?_; rintro e_ w_ ⟨rfl, rfl⟩))
  go_ret
  exact ⟨by rw [H.out]; rfl, tr hB hb1 hB.size⟩

theorem waveError_c (l : List (Int × Int)) (A : Option Addr) (c : Nat) (w : World) (hT : Tab w) (hr : Rd w A (gs l)) (hl : l.length ≤ 1000) :
    Calls Tryd.prog 117 #[.slice A l.length c] w fun r w' => r = .returned (.int .i64 (waveErr l)) ∧ Below w.heap.size w w' := by
  by_cases h0 : lenE l.length 32 = 0
  · have e1 : (lenE l.length 32 != 0) = false := by simpa using h0
    have HR : Hid (waveErr l = (firstBadFrom (fun _ g => waveItem g) 0 l).2) := by
      show waveErr l = _
      unfold waveErr
      rw [if_pos h0]
    clear h0
    go_enter Tryd.func117, Tryd.ntmps117
    go_wp2_with (first
      | (go_at_call 97; refine (lengthError_c _ _ _).mono ?_; rintro e w1 ⟨rfl, hb1⟩)
      | (go_at_call 110; refine (firstBadG_c (fun _ g => waveItem g) 142 l A c #[] _ (hr.bel hb1) hl Tryd.call142 (fun k h W' hb => waveError1_c k _ _ W' ((hT.bel hb1).bel hb))).mono ?_; rintro e w2 ⟨rfl, hb2⟩))
    go_ret
    exact ⟨by rw [HR.out]; rfl, tr hb1 hb2 hb1.size⟩
  · have e1 : (lenE l.length 32 != 0) = true := by simpa using h0
    have HR : Hid (waveErr l = lenE l.length 32) := by
      show waveErr l = _
      unfold waveErr
      rw [if_neg h0]
    clear h0
    go_enter Tryd.func117, Tryd.ntmps117
    go_wp2_with (first
      | (go_at_call 97; refine (lengthError_c _ _ _).mono ?_; rintro e w1 ⟨rfl, hb1⟩))
    go_ret
    exact ⟨by rw [HR.out]; rfl, hb1⟩
end Go.Proofs.YtmedjedmeggbpaaDoor
