/- Contracts: the blocks of a frame, one by one. -/
import Derived.Test.YtmedjedmeggbpaaDoorW12
import Derived.Test.YtmedjedmeggbpaaDoorW3
import Derived.Test.YtmedjedmeggbpaaDoorBase2
namespace Go.Proofs.YtmedjedmeggbpaaDoor
open Go.RowKit
set_option maxRecDepth 100000
attribute [local go_sem] run_store_complex

/-- What reads so, in blocks that are kept, goes on reading so. -/
theorem Rd.keepS {S : Nat → Prop} {w w' : World} {A : Option Addr} {xs : List Value} (h : Rd w A xs) (hS : ∀ b off, A = some ⟨b, off, none⟩ → S b) (hk : Keep S w w') : Rd w' A xs := by
  intro hx
  obtain ⟨b, off, rfl, hlt, hc⟩ := h hx
  exact ⟨b, off, rfl, Nat.lt_of_lt_of_le hlt hk.size, fun j u hu => (hk.cell (p := ⟨b, off + j, none⟩) (hS b off rfl)).trans (hc j u hu)⟩

/-- A usable block, as it is handed on. -/
def IsBlock (samples : List (Int × Int)) (j : Nat) (args : Array Value) (_ : World) : Prop :=
  ∃ v0 v1 v2 v3, args = #[.int .i64 ((4 * j : Nat) : Int), .agg #[v0, v1, v2, v3]] ∧ CI v0 (samples.getD (4 * j) (0, 0)) ∧ CI v1 (samples.getD (4 * j + 1) (0, 0)) ∧ CI v2 (samples.getD (4 * j + 2) (0, 0)) ∧ CI v3 (samples.getD (4 * j + 3) (0, 0))

/-- The numbers of the usable blocks. -/
def blockNs (us : List Bool) (m : Nat) : List Nat := (List.range m).filter fun j => allU us (4 * j)
theorem blockNs_succ_yes {us : List Bool} {m : Nat} (h : allU us (4 * m) = true) : blockNs us (m + 1) = blockNs us m ++ [m] := by simp [blockNs, List.range_succ, List.filter_append, h]
theorem blockNs_succ_no {us : List Bool} {m : Nat} (h : allU us (4 * m) = false) : blockNs us (m + 1) = blockNs us m := by simp [blockNs, List.range_succ, List.filter_append, h]
theorem blockNs_split {us : List Bool} {k m : Nat} (hk : k < m) (h : allU us (4 * k) = true) : ∃ rest, blockNs us m = blockNs us k ++ k :: rest := by
  obtain ⟨rest, hr⟩ := range_split hk
  refine ⟨rest.filter fun j => allU us (4 * j), ?_⟩
  simp only [blockNs]
  rw [hr, List.filter_append, List.filter_cons, if_pos h]

theorem blocks_iter (n Bn : Nat) (hn : 1 ≤ n) (gain limit : Int) (A G U : Option Addr) (cA c cU ng : Nat) (samples : List (Int × Int)) (us : List Bool) (S : Nat → Prop) (hS : S Bn) (hSA : ∀ b off, A = some ⟨b, off, none⟩ → S b) (hSU : ∀ b off, U = some ⟨b, off, none⟩ → S b)
    (w : World) (hc : Blk w Bn 158 [.int .i64 gain, .int .i64 limit, .slice A samples.length cA, .slice G ng c, .slice U samples.length cU]) (hs : Rd w A (gs samples)) (hu : Rd w U (bls us)) (hl : us.length = samples.length) (hn1 : samples.length ≤ 1000) (hb : ∀ g ∈ samples, gle 2000000 g) :
    Iter Tryd.prog n 148 #[.pointer (some ⟨Bn, 0, none⟩)] (IsBlock samples) (blockNs us (samples.length / 4)) S w := by
  intro l J W hk hJ hY h0
  have hcW : Blk W Bn 158 [.int .i64 gain, .int .i64 limit, .slice A samples.length cA, .slice G ng c, .slice U samples.length cU] := (hk.block Bn hS).trans hc
  have hsW := hs.keepS hSA hk
  have huW := hu.keepS hSU hk
  have HY := hide hY
  have HB := hide hb
  clear hY hc hs hu hk hb
  refine callsIn_of_wp Tryd.func148 rfl trivial ?_ rfl
  simp only [Tryd.ntmps148, List.size_toArray, List.length_cons, List.length_nil, Nat.reduceAdd, Nat.reduceSub, Array.replicate_succ, Array.replicate_zero, List.push_toArray, List.append_toArray, List.nil_append, List.cons_append]
  gi_wp2
  gi_loopw [3] (fun i wr => ∃ k : Nat, k ≤ samples.length / 4 ∧ i = .int .i64 ((4 * k : Nat) : Int) ∧ Blk wr Bn 158 [.int .i64 gain, .int .i64 limit, .slice A samples.length cA, .slice G ng c, .slice U samples.length cU] ∧ Rd wr A (gs samples) ∧ Rd wr U (bls us) ∧ J (blockNs us k) wr) (fun i _ => samples.length / 4 * 4 - (intOf i).toNat)
  case atStart => exact ⟨0, Nat.zero_le _, rfl, hcW, hsW, huW, h0⟩
  case round =>
    clear hcW hsW huW h0
    obtain ⟨k, hkN, rfl, hcr, hsr, hur, hj⟩ := hrel
    have hBn : Bn < wr.heap.size := hcr.lt
    have c0 := hcr.cell 0
    have c1 := hcr.cell 1
    have c2 := hcr.cell 2
    have c3 := hcr.cell 3
    have c4 := hcr.cell 4
    simp only [List.getElem?_cons_zero, List.getElem?_cons_succ] at c0 c1 c2 c3 c4
    obtain ⟨f, hf⟩ : ∃ f, 4 * k = f := ⟨_, rfl⟩
    by_cases hlt : k < samples.length / 4
    · have hle : f + 4 ≤ samples.length := by omega
      have HC := hide (blockAt_c gain limit A G U cA c cU ng samples us f wr hsr hur hl hle hn1 HB.out)
      rw [hf]
      by_cases hall : allU us (4 * k) = true
      · have hall' : allU us f = true := by rw [← hf]; exact hall
        have HCy := hide (HC.out.mono (R' := fun r w' => (∃ v0 v1 v2 v3, r = .returned (.tuple #[.agg #[v0, v1, v2, v3], .bool true]) ∧ CI v0 (samples.getD f (0, 0)) ∧ CI v1 (samples.getD (f + 1) (0, 0)) ∧ CI v2 (samples.getD (f + 2) (0, 0)) ∧ CI v3 (samples.getD (f + 3) (0, 0))) ∧ Below wr.heap.size wr w') (fun r w' hx => by
          obtain ⟨h, hb⟩ := hx
          refine ⟨?_, hb⟩
          rcases h with ⟨_, h⟩ | ⟨h, _⟩
          · exact h
          · rw [hall'] at h; cases h))
        gi_wp2_with (refine ⟨trivial, ?_⟩; gi_at_call 149; refine (CallsIn.mono (callsIn_wide.2 HCy.out) ?_); rintro e w1 ⟨⟨v0, v1, v2, v3, rfl, ⟨x0, y0, rfl, fx0, fy0⟩, ⟨x1, y1, rfl, fx1, fy1⟩, ⟨x2, y2, rfl, fx2, fy2⟩, ⟨x3, y3, rfl, fx3, fy3⟩⟩, hb1⟩)
        obtain ⟨W2, hW2⟩ : ∃ W2, w1.alloc (.cells #[.complex .f64 x0 y0, .complex .f64 x1 y1, .complex .f64 x2 y2, .complex .f64 x3 y3] 180) = W2 := ⟨_, rfl⟩
        rw [hW2]
        have hb2 : Below wr.heap.size wr W2 := by rw [← hW2]; exact hb1.alloc hb1.size _
        clear hW2
        obtain ⟨rest, hrest⟩ := blockNs_split hlt hall
        obtain ⟨fn, tmps, assign, body, hy, hR⟩ := HY.out (blockNs us k) k rest W2 #[.int .i64 (f : Int), .agg #[.complex .f64 x0 y0, .complex .f64 x1 y1, .complex .f64 x2 y2, .complex .f64 x3 y3]] hrest (hJ _ _ _ hj hb2)
          ⟨_, _, _, _, by rw [hf], by rw [hf]; exact ⟨x0, y0, rfl, fx0, fy0⟩, by rw [hf]; exact ⟨x1, y1, rfl, fx1, fy1⟩, by rw [hf]; exact ⟨x2, y2, rfl, fx2, fy2⟩, by rw [hf]; exact ⟨x3, y3, rfl, fx3, fy3⟩⟩
        rw [hy, Oper.uponIn_round]
        refine ⟨fun h => (by cases h), ?_⟩
        refine hR.mono ?_
        rintro e W3 ⟨rfl, hJ3, hk3⟩
        have hc3 : Blk W3 Bn 158 _ := (hk3.block Bn hS).trans (hcr.bel hb2)
        have hs3 := (hsr.bel hb2).keepS hSA hk3
        have hu3 := (hur.bel hb2).keepS hSU hk3
        gi_wp2
        go_roundw
        case rel => exact ⟨k + 1, by omega, by go_num, hc3, hs3, hu3, by rw [blockNs_succ_yes hall]; exact hJ3⟩
        case measure => simp [intOf]; omega
      · have hall' : allU us f = false := by rw [← hf]; simpa using hall
        have HCn := hide (HC.out.mono (R' := fun r w' => r = .returned (.tuple #[.agg #[cz, cz, cz, cz], .bool false]) ∧ Below wr.heap.size wr w') (fun r w' hx => by
          obtain ⟨h, hb⟩ := hx
          refine ⟨?_, hb⟩
          rcases h with ⟨h, _⟩ | ⟨_, h⟩
          · rw [hall'] at h; cases h
          · exact h))
        simp only [cz] at HCn
        gi_wp2_with (refine ⟨trivial, ?_⟩; gi_at_call 149; refine (CallsIn.mono (callsIn_wide.2 HCn.out) ?_); rintro e w1 ⟨rfl, hb1⟩)
        obtain ⟨W2, hW2⟩ : ∃ W2, w1.alloc (.cells #[.complex .f64 0 0, .complex .f64 0 0, .complex .f64 0 0, .complex .f64 0 0] 180) = W2 := ⟨_, rfl⟩
        rw [hW2]
        have hb2 : Below wr.heap.size wr W2 := by rw [← hW2]; exact hb1.alloc hb1.size _
        clear hW2
        have hallk : allU us (4 * k) = false := by rw [hf]; exact hall'
        refine ⟨fun f h => (by cases h), ?_⟩
        gi_wp2
        go_roundw
        case rel => exact ⟨k + 1, by omega, by go_num, hcr.bel hb2, hsr.bel hb2, hur.bel hb2, by rw [blockNs_succ_no hallk]; exact hJ _ _ _ hj hb2⟩
        case measure => simp [intOf]; omega
    · have hle : ¬ (f + 4 ≤ samples.length) := by omega
      rw [hf]
      obtain rfl : k = samples.length / 4 := by omega
      gi_wp2
      go_end0
      exact ⟨⟨_, rfl⟩, hj⟩
end Go.Proofs.YtmedjedmeggbpaaDoor
