/- Contracts: codes of a number of bits. -/
import Derived.Test.YtmedjedmeggbpaaDoorW2
import Derived.Test.YtmedjedmeggbpaaDoorBase2
namespace Go.Proofs.YtmedjedmeggbpaaDoor
open Go.RowKit
set_option maxRecDepth 100000

/-- One number of the code of some bits. -/
def bitAt (bits len i : Nat) : Int := 2 * ((bits / 2 ^ (len - 1 - i) % 2 : Nat) : Int) - 1
/-- The code of a number of bits. -/
def codeL (bits len : Nat) : List Int := (List.range len).map (bitAt bits len)
theorem codeL_length (bits len : Nat) : (codeL bits len).length = len := by simp [codeL]

theorem Tryd.info3 : (Tryd.prog.info? 3).map (fun i => (i.zero, i.size, i.bytes)) = some (some (.int .i64 0), 1, 8) := by kernel_rfl

theorem bitVal (bits len k : Nat) (hb : bits < 2 ^ 32) : wrap64 (wrap64 (2 * Go.bits .and .i64 ((bits : Int) / 2 ^ (len - 1 - k)) 1) - 1) = bitAt bits len k := by
  have e : ((bits : Int) / 2 ^ (len - 1 - k)) = ((bits / 2 ^ (len - 1 - k) : Nat) : Int) := by simp
  have hlt : bits / 2 ^ (len - 1 - k) ≤ bits := Nat.div_le_self _ _
  rw [e, i64_and_one _ (by omega)]
  have h2 : bits / 2 ^ (len - 1 - k) % 2 < 2 := Nat.mod_lt _ (by omega)
  unfold bitAt
  have e1 : wrap64 (2 * ((bits / 2 ^ (len - 1 - k) % 2 : Nat) : Int)) = 2 * ((bits / 2 ^ (len - 1 - k) % 2 : Nat) : Int) := wrap64_id (by omega) (by omega)
  rw [e1, wrap64_id (by omega) (by omega)]

theorem ints_set_next (f : Nat → Int) (len k : Nat) (hk : k < len) :
    (ints ((List.range k).map f ++ List.replicate (len - k) 0)).set k (.int .i64 (f k)) = ints ((List.range (k + 1)).map f ++ List.replicate (len - (k + 1)) 0) := by
  have e : len - k = (len - (k + 1)) + 1 := by omega
  rw [e, List.replicate_succ, List.range_succ]
  simp [ints]

theorem codeOf_c (bits len : Nat) (hl : len ≤ 32) (hb : bits < 2 ^ 32) (w : World) :
    Calls Tryd.prog 140 #[.int .i64 bits, .int .i64 len] w fun r w' => ∃ A c, r = .returned (.slice A len c) ∧ RdT w' 3 A (ints (codeL bits len)) ∧ Below w.heap.size w w' := by
  obtain ⟨i0, hi, hz0, hz1, hz2⟩ := info_parts Tryd.info3
  go_enter Tryd.func140, Tryd.ntmps140
  go_wp2_with (first | (at_make; refine wpList_make_full _ rfl _ _ 22 rfl w.heap.size 3 i0 _ 1 Tryd.underlying22 hi hz0 hz1 _ _ _ _ len rfl rfl rfl rfl (by rw [hz2]; omega) (by simp only [maxLen]; omega) (by simp) ?_; intro w1 hown1 hg1))
  have hB1 : Blk w1 w.heap.size 3 (ints (List.replicate len 0)) := by
    have := Blk.of_own hown1
    rw [show (Value.int .i64 0).cells = #[.int .i64 0] from rfl] at this
    have e := madeCells_one (.int .i64 0) rfl len
    rw [show (Value.int .i64 0).cells = #[.int .i64 0] from rfl] at e
    rw [e] at this
    simpa [ints] using this
  have hbel1 : Below w.heap.size w w1 := (Below.refl _ _).grown hg1 (Nat.le_refl _) (by simp)
  clear hown1 hg1
  go_loopw [10] (fun i wr => ∃ k : Nat, k ≤ len ∧ i = .int .i64 k ∧ Below w.heap.size w wr ∧ Blk wr w.heap.size 3 (ints ((List.range k).map (bitAt bits len) ++ List.replicate (len - k) 0))) (fun i _ => len - (intOf i).toNat)
  case atStart => exact ⟨0, Nat.zero_le _, rfl, hbel1, hB1⟩
  case round =>
    obtain ⟨k, hk, rfl, hbel, hB⟩ := hrel
    by_cases hlt : k < len
    · have hc0 := hB.cell k
      have hf0 := hB.frozen k
      have hv := bitVal bits len k hb
      have hcell : wr.cell? ⟨w.heap.size, k, none⟩ = some (.int .i64 0) := by
        rw [hc0]
        simp [ints, show 0 < len - k from by omega]
      clear hc0
      go_wp2
      go_roundw
      case rel => exact ⟨k + 1, by omega, by go_num, hbel.setCell (Nat.le_refl _) _, by
        have := hB.set_ k (.int .i64 (bitAt bits len k))
        rwa [ints_set_next _ _ _ hlt] at this⟩
      case measure => simp [intOf]; omega
    · obtain rfl : k = len := by omega
      go_wp2
      go_ret
      refine ⟨_, _, rfl, ?_, hbel⟩
      rw [Nat.sub_self] at hB
      exact hB.rdT (by simp [codeL, ints])

theorem codesOf_c (n : Int) (w : World) :
    Calls Tryd.prog 101 #[.int .i64 n] w fun r w' => r = .returned (.func (.func 139) #[] #[.pointer (some ⟨w.heap.size, 0, none⟩)]) ∧ w.alloc (.cells #[.int .i64 n] 3) = w' := by
  go_enter Tryd.func101, Tryd.ntmps101
  go_wp2
  go_ret
  exact ⟨rfl, rfl⟩

/-- The arguments are a slice that reads as the code of these bits. -/
def IsCode (len : Nat) (bits : Nat) (args : Array Value) (W : World) : Prop := ∃ A c, args = #[.slice A len c] ∧ RdT W 3 A (ints (codeL bits len))

theorem range_split {k N : Nat} (h : k < N) : ∃ rest, List.range N = List.range k ++ k :: rest := by
  refine ⟨(List.range N).drop (k + 1), ?_⟩
  have h1 := List.take_append_drop k (List.range N)
  rw [List.take_range, Nat.min_eq_left (by omega), List.drop_eq_getElem_cons (by simpa using h), List.getElem_range] at h1
  exact h1.symm

theorem codes_iter (n len Bn : Nat) (hn : 1 ≤ n) (hl : len ≤ 10) (S : Nat → Prop) (hS : S Bn) (w : World) (hc : w.cell? ⟨Bn, 0, none⟩ = some (.int .i64 len)) :
    Iter Tryd.prog n 139 #[.pointer (some ⟨Bn, 0, none⟩)] (IsCode len) (List.range (2 ^ len)) S w := by
  intro l J W hk hJ hY h0
  have hcW : W.cell? ⟨Bn, 0, none⟩ = some (.int .i64 len) := (hk.cell (p := ⟨Bn, 0, none⟩) hS).trans hc
  obtain ⟨N, hN, hw2, hN2⟩ : ∃ N : Nat, Hid (2 ^ len = N) ∧ wrap64 ((2 : Int) ^ len) = (N : Int) ∧ N ≤ 1024 := by
    have h2 : 2 ^ len ≤ 2 ^ 10 := Nat.pow_le_pow_right (by omega) hl
    refine ⟨2 ^ len, rfl, ?_, h2⟩
    have e : ((2 ^ len : Nat) : Int) = (2 : Int) ^ len := by simp
    rw [← e]
    generalize 2 ^ len = M at h2
    exact wrap64_id (by omega) (by omega)
  rw [hN.out] at hY ⊢
  have HY := hide hY
  clear hY hc
  refine callsIn_of_wp Tryd.func139 rfl trivial ?_ rfl
  simp only [Tryd.ntmps139, List.size_toArray, List.length_cons, List.length_nil, Nat.reduceAdd, Nat.reduceSub, Array.replicate_succ, Array.replicate_zero, List.push_toArray, List.append_toArray, List.nil_append, List.cons_append]
  gi_wp2
  rw [hw2]
  clear hw2
  gi_loopw [8] (fun i wr => ∃ k : Nat, k ≤ N ∧ i = .int .i64 k ∧ wr.cell? ⟨Bn, 0, none⟩ = some (.int .i64 len) ∧ J (List.range k) wr) (fun i _ => N - (intOf i).toNat)
  case atStart => exact ⟨0, Nat.zero_le _, rfl, hcW, h0⟩
  case round =>
    obtain ⟨k, hkN, rfl, hcr, hj⟩ := hrel
    by_cases hlt : k < N
    · have hBn : Bn < wr.heap.size := by obtain ⟨o, ho, _⟩ := cells_of_cell hcr; exact (Array.getElem?_eq_some_iff.1 ho).1
      gi_wp2_with (refine ⟨trivial, ?_⟩; gi_at_call 140; refine (CallsIn.mono (callsIn_wide.2 (codeOf_c k len (by omega) (by omega) _)) ?_); rintro e w1 ⟨A, c, rfl, hrd, hb1⟩)
      obtain ⟨rest, hrest⟩ := range_split hlt
      obtain ⟨fn, tmps, assign, body, hy, hR⟩ := HY.out (List.range k) k rest w1 #[.slice A len c] hrest (hJ _ _ _ hj hb1) ⟨A, c, rfl, hrd⟩
      rw [hy, Oper.uponIn_round]
      refine ⟨fun h => (by cases h), ?_⟩
      refine hR.mono ?_
      rintro e W3 ⟨rfl, hJ3, hk3⟩
      have hc3 : W3.cell? ⟨Bn, 0, none⟩ = some (.int .i64 len) := (hk3.cell (p := ⟨Bn, 0, none⟩) hS).trans ((hb1.cell (p := ⟨Bn, 0, none⟩) hBn).trans hcr)
      gi_wp2
      go_roundw
      case rel => exact ⟨k + 1, by omega, by go_num, hc3, by rw [List.range_succ]; exact hJ3⟩
      case measure => simp [intOf]; omega
    · obtain rfl : k = N := by omega
      gi_wp2
      go_end0
      exact ⟨⟨_, rfl⟩, hj⟩
end Go.Proofs.YtmedjedmeggbpaaDoor
