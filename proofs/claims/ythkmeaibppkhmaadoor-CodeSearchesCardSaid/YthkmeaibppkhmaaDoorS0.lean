/- Contracts: codes of a number of bits that are handed out in new memory. -/
import Derived.Test.YthkmeaibppkhmaaDoorMF
namespace Go.Proofs.YthkmeaibppkhmaaDoor
open Go.RowKit
set_option maxRecDepth 100000

theorem codeOf_n (bits len : Nat) (hl : len ≤ 32) (hb : bits < 2 ^ 32) (w : World) :
    Calls Tryd.prog 140 #[.int .i64 bits, .int .i64 len] w fun r w' => ∃ A c, r = .returned (.slice A len c) ∧ RdT w' 3 A (ints (codeL bits len)) ∧ (∀ g off, A = some ⟨g, off, none⟩ → w.heap.size ≤ g) ∧ Below w.heap.size w w' := by
  obtain ⟨i0, hi, hz0, hz1, hz2⟩ := info_parts Tryd.info3
  go_enter Tryd.func140, Tryd.ntmps140
  go_wp2_with (first | (at_make; refine wpList_make_full _ rfl _ _ 22 rfl w.heap.size 3 i0 _ 1 Tryd.underlying22 hi hz0 hz1 _ _ _ _ len rfl rfl rfl rfl (by rw [hz2]; omega) (by simp only [maxLen]; omega) (by simp) ?_; intro w1 hown1 hg1))
  have hB1 : Blk w1 w.heap.size 3 (ints (List.replicate len 0)) := by
    have := Blk.of_own hown1
    rw [show (Value.int .i64 0).cells = #[.int .i64 0] from rfl] at this
    have e := madeCells_one (.int .i64 0) rfl len
    rw [show (Value.int .i64 0).cells = #[.int .i64 0] from rfl] at e
    rw [e] at this
    simpa [ints] using this
  have hbel1 : Below w.heap.size w w1 := (Below.refl _ _).grown hg1 (Nat.le_refl _) (by simp)
  clear hown1 hg1
  go_loopw [10] (fun i wr => ∃ k : Nat, k ≤ len ∧ i = .int .i64 k ∧ Below w.heap.size w wr ∧ Blk wr w.heap.size 3 (ints ((List.range k).map (bitAt bits len) ++ List.replicate (len - k) 0))) (fun i _ => len - (intOf i).toNat)
  case atStart => exact ⟨0, Nat.zero_le _, rfl, hbel1, hB1⟩
  case round =>
    obtain ⟨k, hk, rfl, hbel, hB⟩ := hrel
    by_cases hlt : k < len
    · have hc0 := hB.cell k
      have hf0 := hB.frozen k
      have hv := bitVal bits len k hb
      have hcell : wr.cell? ⟨w.heap.size, k, none⟩ = some (.int .i64 0) := by
        rw [hc0]
        simp [ints, show 0 < len - k from by omega]
      clear hc0
      go_wp2
      go_roundw
      case rel => exact ⟨k + 1, by omega, by go_num, hbel.setCell (Nat.le_refl _) _, by
        have := hB.set_ k (.int .i64 (bitAt bits len k))
        rwa [ints_set_next _ _ _ hlt] at this⟩
      case measure => simp [intOf]; omega
    · obtain rfl : k = len := by omega
      go_wp2
      go_ret
      refine ⟨_, _, rfl, ?_, fun g off h => (by injection h with h; injection h with h; omega), hbel⟩
      rw [Nat.sub_self] at hB
      exact hB.rdT (by simp [codeL, ints])

/-- The arguments are a slice that reads as the code of these bits, in memory that is new. -/
def IsCodeN (n0 len : Nat) (bits : Nat) (args : Array Value) (W : World) : Prop := ∃ A c, args = #[.slice A len c] ∧ RdT W 3 A (ints (codeL bits len)) ∧ ∀ g off, A = some ⟨g, off, none⟩ → n0 ≤ g

theorem codes_iterN (n len Bn n0 : Nat) (hn : 1 ≤ n) (hl : len ≤ 10) (S : Nat → Prop) (hS : S Bn) (w : World) (h00 : n0 ≤ w.heap.size) (hc : w.cell? ⟨Bn, 0, none⟩ = some (.int .i64 len)) :
    Iter Tryd.prog n 139 #[.pointer (some ⟨Bn, 0, none⟩)] (IsCodeN n0 len) (List.range (2 ^ len)) S w := by
  intro l J W hk hJ hY h0
  have hcW : W.cell? ⟨Bn, 0, none⟩ = some (.int .i64 len) := (hk.cell (p := ⟨Bn, 0, none⟩) hS).trans hc
  obtain ⟨N, hN, hw2, hN2⟩ : ∃ N : Nat, Hid (2 ^ len = N) ∧ wrap64 ((2 : Int) ^ len) = (N : Int) ∧ N ≤ 1024 := by
    have h2 : 2 ^ len ≤ 2 ^ 10 := Nat.pow_le_pow_right (by omega) hl
    refine ⟨2 ^ len, rfl, ?_, h2⟩
    have e : ((2 ^ len : Nat) : Int) = (2 : Int) ^ len := by simp
    rw [← e]
    generalize 2 ^ len = M at h2
    exact wrap64_id (by omega) (by omega)
  rw [hN.out] at hY ⊢
  have HY := hide hY
  clear hY hc
  refine callsIn_of_wp Tryd.func139 rfl trivial ?_ rfl
  simp only [Tryd.ntmps139, List.size_toArray, List.length_cons, List.length_nil, Nat.reduceAdd, Nat.reduceSub, Array.replicate_succ, Array.replicate_zero, List.push_toArray, List.append_toArray, List.nil_append, List.cons_append]
  gi_wp2
  rw [hw2]
  clear hw2
  gi_loopw [8] (fun i wr => ∃ k : Nat, k ≤ N ∧ i = .int .i64 k ∧ wr.cell? ⟨Bn, 0, none⟩ = some (.int .i64 len) ∧ n0 ≤ wr.heap.size ∧ J (List.range k) wr) (fun i _ => N - (intOf i).toNat)
  case atStart => exact ⟨0, Nat.zero_le _, rfl, hcW, Nat.le_trans h00 hk.size, h0⟩
  case round =>
    obtain ⟨k, hkN, rfl, hcr, hnr, hj⟩ := hrel
    by_cases hlt : k < N
    · have hBn : Bn < wr.heap.size := by obtain ⟨o, ho, _⟩ := cells_of_cell hcr; exact (Array.getElem?_eq_some_iff.1 ho).1
      gi_wp2_with (refine ⟨trivial, ?_⟩; gi_at_call 140; refine (CallsIn.mono (callsIn_wide.2 (codeOf_n k len (by omega) (by omega) _)) ?_); rintro e w1 ⟨A, c, rfl, hrd, hnA, hb1⟩)
      obtain ⟨rest, hrest⟩ := range_split hlt
      obtain ⟨fn, tmps, assign, body, hy, hR⟩ := HY.out (List.range k) k rest w1 #[.slice A len c] hrest (hJ _ _ _ hj hb1) ⟨A, c, rfl, hrd, fun g off h => Nat.le_trans hnr (hnA g off h)⟩
      rw [hy, Oper.uponIn_round]
      refine ⟨fun h => (by cases h), ?_⟩
      refine hR.mono ?_
      rintro e W3 ⟨rfl, hJ3, hk3⟩
      have hc3 : W3.cell? ⟨Bn, 0, none⟩ = some (.int .i64 len) := (hk3.cell (p := ⟨Bn, 0, none⟩) hS).trans ((hb1.cell (p := ⟨Bn, 0, none⟩) hBn).trans hcr)
      gi_wp2
      go_roundw
      case rel => exact ⟨k + 1, by omega, by go_num, hc3, Nat.le_trans hnr (Nat.le_trans hb1.size hk3.size), by rw [List.range_succ]; exact hJ3⟩
      case measure => simp [intOf]; omega
    · obtain rfl : k = N := by omega
      gi_wp2
      go_end0
      exact ⟨⟨_, rfl⟩, hj⟩
end Go.Proofs.YthkmeaibppkhmaaDoor
