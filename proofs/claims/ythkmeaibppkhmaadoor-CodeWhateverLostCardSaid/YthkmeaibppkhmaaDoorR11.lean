/- Contracts: the check of a line (the program's). -/
import Derived.Test.YthkmeaibppkhmaaDoorR10
namespace Go.Proofs.YthkmeaibppkhmaaDoor
open Go.RowKit
set_option maxRecDepth 100000

def lineItem (miss : List Int) (k : Nat) (g : Int × Int) : Int := errIf (beyB g 1000000000 || outB (miss.getD k 0) 0 64) 2
def lineHd (n m : Int) : Int := firstE [errIf (m != n) 10, lenE n 64]
def lineE (vals : List (Int × Int)) (miss : List Int) : Int := if lineHd vals.length miss.length = 0 then (firstBadFrom (lineItem miss) 0 vals).2 else lineHd vals.length miss.length

theorem lineHd_zero {n m : Int} (h : lineHd n m = 0) : m = n ∧ 1 ≤ n ∧ n ≤ 64 ∨ n < 0 := by
  unfold lineHd firstE errIf at h
  by_cases e : m = n
  · subst e
    simp only [bne_self_eq_false, Bool.false_eq_true, if_false, if_true, firstE] at h
    rw [lenE_eq] at h
    split at h
    · split at h <;> omega
    · split at h
      · split at h <;> omega
      · omega
  · have : (m != n) = true := by simpa using e
    simp [this] at h

theorem lineError1_c (k : Nat) (x y : Int) (V M : Value) (A : Option Addr) (q : Nat) (miss : List Int) (B : Nat) (w : World) (_hV : w.cell? ⟨B, 0, none⟩ = some V) (hM : M = .slice A miss.length q) (hc : w.cell? ⟨B, 1, none⟩ = some M) (hr : Rd w A (ints miss)) (hk : k < miss.length) :
    Calls Tryd.prog 146 (#[.int .i64 k, .agg #[.int .i64 x, .int .i64 y]] ++ #[.pointer (some ⟨B, 0, none⟩)]) w fun r w' => r = .returned (.int .i64 (lineItem miss k (x, y))) ∧ Below w.heap.size w w' := by
  rw [show (#[.int .i64 k, .agg #[.int .i64 x, .int .i64 y]] ++ #[.pointer (some ⟨B, 0, none⟩)] : Array Value) = #[.int .i64 k, .agg #[.int .i64 x, .int .i64 y], .pointer (some ⟨B, 0, none⟩)] from rfl]
  subst hM
  have hB : B < w.heap.size := World.block_lt_of_cell? _ _ hc
  obtain ⟨b, off, rfl, hblt, hc0⟩ := hr.int_at hk
  have e1 : miss.getD k 0 = miss[k] := by simp [List.getD, hk]
  have ix0 : (0 : Int) ≤ (k : Int) := by omega
  have ix1 : (k : Int) < (miss.length : Int) := by omega
  have H : Hid (lineItem miss k (x, y) = errIf (beyB (x, y) 1000000000 || outB miss[k] 0 64) 2) := by show _ = _; unfold lineItem; rw [e1]
  clear e1
  generalize miss[k] = z at hc0 H
  have HB := hide (fun W => beyond_c x y 1000000000 W (by omega) (by omega))
  generalize beyB (x, y) 1000000000 = be at HB H
  have hA := alloc_bel w (.cells #[.int .i64 x, .int .i64 y] 76)
  cases be
  · go_enter Tryd.func146, Tryd.ntmps146
    go_wp2_with (first | (go_at_call 112; refine (HB.out _).mono ?_; rintro e w1 ⟨rfl, hb1⟩; have hW1 := tr hA hb1 hA.size; have c1 := (hW1.cell (p := ⟨B, 1, none⟩) hB).trans hc; have c2 := (hW1.cell (p := ⟨b, off + k, none⟩) hblt).trans hc0) | (go_at_call 93; refine (errorIf_c _ _ _).mono ?_; rintro e_ w_ ⟨rfl, rfl⟩) | (go_at_call 94; refine (outside_c _ _ _ _).mono ?_; rintro e_ w_ ⟨rfl, rfl⟩))
    go_ret
    exact ⟨by rw [H.out]; rfl, hW1⟩
  · go_enter Tryd.func146, Tryd.ntmps146
    go_wp2_with (first | (go_at_call 112; refine (HB.out _).mono ?_; rintro e w1 ⟨rfl, hb1⟩; have hW1 := tr hA hb1 hA.size) | (go_at_call 93; refine (errorIf_c _ _ _).mono ?_; rintro e_ w_ ⟨rfl, rfl⟩) | (go_at_call 94; refine (outside_c _ _ _ _).mono ?_; rintro e_ w_ ⟨rfl, rfl⟩))
    go_ret
    exact ⟨by rw [H.out]; rfl, hW1⟩

theorem lineError_c (V M : Option Addr) (q1 q2 : Nat) (vals : List (Int × Int)) (miss : List Int) (w : World) (hs : Rd w V (gs vals)) (hr : Rd w M (ints miss)) (hn : vals.length ≤ 1000) :
    Calls Tryd.prog 120 #[.agg #[.slice V vals.length q1, .slice M miss.length q2]] w fun r w' => r = .returned (.int .i64 (lineE vals miss)) ∧ Below w.heap.size w w' := by
  have hX := Blk.new w 89 [.slice V vals.length q1, .slice M miss.length q2]
  have HS := hide (show (w.alloc (.cells #[.slice V vals.length q1, .slice M miss.length q2] 89)).cell? ⟨w.heap.size, 0, none⟩ = some (.slice V vals.length q1) ∧ (w.alloc (.cells #[.slice V vals.length q1, .slice M miss.length q2] 89)).cell? ⟨w.heap.size, 1, none⟩ = some (.slice M miss.length q2) ∧ Below w.heap.size w (w.alloc (.cells #[.slice V vals.length q1, .slice M miss.length q2] 89)) from ⟨hX.cell 0, hX.cell 1, alloc_bel _ _⟩)
  have hz0 : w.heap.size ≤ (w.alloc (.cells #[.slice V vals.length q1, .slice M miss.length q2] 89)).drew.heap.size := by simp
  clear hX
  go_enter Tryd.func120, Tryd.ntmps120
  go_wp2
  go_region_held3 (fun w' => w'.cell? ⟨w.heap.size, 0, none⟩ = some (.slice V vals.length q1) ∧ w'.cell? ⟨w.heap.size, 1, none⟩ = some (.slice M miss.length q2) ∧ Below w.heap.size w w')
    (first | exact hd2_drew HS.out | exact hd2_bel (hd2_drew HS.out) hb1 hz0 | exact hd2_alloc (hd2_bel (hd2_drew HS.out) hb1 hz0) (Nat.le_trans hz0 hb1.size) _)
    (first
      | (go_at_call 97; refine (lengthError_c _ _ _).mono ?_; rintro e w1 ⟨rfl, hb1⟩) | (go_at_call 93; refine (errorIf_c _ _ _).mono ?_; rintro e_ w_ ⟨rfl, rfl⟩) | (go_at_call 94; refine (outside_c _ _ _ _).mono ?_; rintro e_ w_ ⟨rfl, rfl⟩) | (go_at_call 92; refine (firstError_2 _ _ _).mono ?_; rintro e_ w_ ⟨rfl, rfl⟩))
  have hF := hd2_alloc (hd2_bel (hd2_drew HS.out) hb1 hz0) (Nat.le_trans hz0 hb1.size) (.cells #[.int .i64 (errIf ((miss.length : Int) != vals.length) 10), .int .i64 (lenE vals.length 64)] 25)
  generalize hW : w1.alloc (.cells #[.int .i64 (errIf ((miss.length : Int) != vals.length) 10), .int .i64 (lenE vals.length 64)] 25) = W at hF ⊢
  rw [show firstE [errIf ((miss.length : Int) != vals.length) 10, lenE vals.length 64] = lineHd vals.length miss.length from rfl]
  obtain ⟨c0, c1, hbel⟩ := hF
  have hsz : w.heap.size < W.heap.size := World.block_lt_of_cell? _ _ c0
  clear hb1 HS hW
  by_cases h0 : lineHd vals.length miss.length = 0
  · have e1 : (lineHd vals.length miss.length != 0) = false := by simpa using h0
    have hm : miss.length = vals.length := by
      rcases lineHd_zero h0 with h | h <;> omega
    have HR : Hid (lineE vals miss = (firstBadFrom (lineItem miss) 0 vals).2) := by
      show lineE vals miss = _
      unfold lineE
      rw [if_pos h0]
    clear h0
    have HC1 := hide (firstBadG_c (lineItem miss) 146 vals V q1 #[.pointer (some ⟨w.heap.size, 0, none⟩)] W (hs.bel hbel) hn Tryd.call146
      (fun k h W' hb => lineError1_c k _ _ _ _ M q2 miss w.heap.size W' ((hb.cell (p := ⟨w.heap.size, 0, none⟩) hsz).trans c0) rfl ((hb.cell (p := ⟨w.heap.size, 1, none⟩) hsz).trans c1) ((hr.bel hbel).bel hb) (by omega)))
    generalize lineHd vals.length miss.length = hd at e1
    clear hm
    go_wp2_with (first
      | (go_at_call 110; refine HC1.out.mono ?_; rintro e w2 ⟨rfl, hb2⟩))
    go_ret
    exact ⟨by rw [HR.out]; rfl, tr hbel hb2 (by omega)⟩
  · have HR : Hid (lineE vals miss = lineHd vals.length miss.length) := by
      show lineE vals miss = _
      unfold lineE
      rw [if_neg h0]
    have e1 : (lineHd vals.length miss.length != 0) = true := by simpa using h0
    clear h0
    go_wp2
    go_ret
    exact ⟨by rw [HR.out]; rfl, hbel⟩
end Go.Proofs.YthkmeaibppkhmaaDoor
