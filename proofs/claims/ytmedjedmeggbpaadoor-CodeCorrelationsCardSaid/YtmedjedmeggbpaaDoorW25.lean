/- Contracts: the wave of a code. -/
import Derived.Test.YtmedjedmeggbpaaDoorW24
namespace Go.Proofs.YtmedjedmeggbpaaDoor
open Go.RowKit
set_option maxRecDepth 100000

def reL (l : List Int) : List (Int × Int) := l.map fun n => (n, 0)

theorem waveOf_c (l : List Int) (A : Option Addr) (c : Nat) (w : World) (hr : Rd w A (ints l)) (hl : l.length ≤ 1000) :
    Calls Tryd.prog 20 #[.slice A l.length c] w fun r w' =>
      ((codeE l ≠ 0 ∧ r = .returned (.tuple #[.slice none 0 0, .int .i64 (codeE l)])) ∨
        (codeE l = 0 ∧ ∃ g : Nat, r = .returned (.tuple #[.slice (some ⟨g, 0, none⟩) l.length l.length, .int .i64 0]) ∧ w.heap.size ≤ g ∧ Blk w' g 76 (gs (reL l)))) ∧ Below w.heap.size w w' := by
  obtain ⟨i0, hi, iz0, iz1, iz2⟩ := info_parts Tryd.info76
  have hm1 : ∀ W, (Instr.makeSlice 30 (.int .i64 (l.length : Int)) (.int .i64 (l.length : Int))).run Tryd.prog W = .ok (.slice (some ⟨W.heap.size, 0, none⟩) l.length l.length) (W.alloc (.cells (gs (List.replicate l.length (0, 0))).toArray 76)) := fun W => by
    have h1 := run_make_rowN (P := Tryd.prog) 30 76 i0 _ Tryd.underlying30 hi iz0 .i64 .i64 l.length l.length (Nat.le_refl _) (by rw [iz2]; omega) (by omega) W
    have h2 := madeCells_g l.length
    rw [iz1] at h1
    rw [h1]
    congr 3
    rw [← h2]
  by_cases h0 : codeE l = 0
  · have e1 : (codeE l != 0) = false := by simpa using h0
    have H0 := hide h0
    clear h0
    go_enter Tryd.func20, Tryd.ntmps20
    go_upto_region 6 with (first | (go_at_call 22; refine (checkCode_c l A c _ hr hl).mono ?_; rintro e w1 ⟨rfl, hb1⟩))
    generalize hW : w1.alloc (.cells (gs (List.replicate l.length (0, 0))).toArray 76) = W
    have hBW : Below w1.heap.size w1 W := by rw [← hW]; exact (Below.refl _ _).alloc (Nat.le_refl _) _
    have hGW : Blk W w1.heap.size 76 (gs (List.replicate l.length (0, 0))) := by rw [← hW]; exact Blk.new w1 _ _
    clear hW
    obtain ⟨g, hg⟩ : ∃ g, w1.heap.size = g := ⟨_, rfl⟩
    have hgw : w.heap.size ≤ g := by have := hb1.size; omega
    rw [hg] at hGW hBW ⊢
    go_wp2
    go_loopw [18] (fun i wr => ∃ k : Nat, k ≤ l.length ∧ i = .int .i64 k ∧ Below g w1 wr ∧ Blk wr g 76 (gs (reL (l.take k) ++ List.replicate (l.length - k) (0, 0)))) (fun i _ => l.length - (intOf i).toNat)
    case atStart => exact ⟨0, Nat.zero_le _, rfl, hBW, by simpa [reL] using hGW⟩
    case round =>
      obtain ⟨k, hk, rfl, hbr, hGr⟩ := hrel
      have hbw : Below w.heap.size w wr := tr hb1 hbr hgw
      by_cases hlt : k < l.length
      · obtain ⟨b, off, rfl, hbl, z0⟩ := (hr.bel hbw).int_at hlt
        have hLn : (reL (l.take k) ++ List.replicate (l.length - k) (0, 0)).length = l.length := by simp [reL]; omega
        have hLS : Hid ((reL (l.take k) ++ List.replicate (l.length - k) (0, 0)).set k (l[k], 0) = reL (l.take (k + 1)) ++ List.replicate (l.length - (k + 1)) (0, 0)) := by
          show _ = _
          have e : l.length - k = (l.length - (k + 1)) + 1 := by omega
          rw [List.set_append_right _ _ (by simp [reL]; omega), List.take_succ_eq_append_getElem hlt, e, List.replicate_succ]
          have e2 : k - (reL (l.take k)).length = 0 := by simp [reL]; omega
          rw [e2, List.set_cons_zero, show reL (l.take k ++ [l[k]]) = reL (l.take k) ++ [(l[k], 0)] from List.map_append, List.append_assoc]
          rfl
        generalize l[k] = n at z0 hLS
        generalize reL (l.take k) ++ List.replicate (l.length - k) (0, 0) = L at hGr hLn hLS
        obtain ⟨gk, hgk⟩ : ∃ gk, L[k]? = some gk := ⟨_, List.getElem?_eq_getElem (by omega)⟩
        obtain ⟨y0, y1⟩ := hGr.g_at hgk
        have q0 := hGr.frozen (k * 2)
        have q1 := hGr.frozen (k * 2 + 1)
        have hset := hide (hGr.setG (k := k) (g := (n, 0)) (by omega))
        have hLnH := hide hLn
        clear hLn hgk
        go_wp2
        go_roundw
        case rel => exact ⟨k + 1, by omega, by go_num, (hbr.setCell (Nat.le_refl _) _).setCell (Nat.le_refl _) _, by rw [← hLS.out]; exact hset.out⟩
        case measure => simp [intOf]; omega
      · obtain rfl : k = l.length := by omega
        go_wp2
        go_ret2
        refine ⟨.inr ⟨H0.out, g, rfl, hgw, ?_⟩, hbw⟩
        rw [Nat.sub_self, List.replicate_zero, List.append_nil, List.take_of_length_le (Nat.le_refl _)] at hGr
        exact hGr
  · have e1 : (codeE l != 0) = true := by simpa using h0
    have H0 := hide h0
    clear h0
    go_enter Tryd.func20, Tryd.ntmps20
    go_wp2_with (first | (go_at_call 22; refine (checkCode_c l A c _ hr hl).mono ?_; rintro e w1 ⟨rfl, hb1⟩))
    go_ret2
    exact ⟨.inl ⟨H0.out, rfl⟩, hb1⟩
end Go.Proofs.YtmedjedmeggbpaaDoor
