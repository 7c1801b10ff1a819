/- The law: one burst. -/
import Derived.Test.YtnjdkdmfeonabaaE87
import Derived.Laws.IdiomStrings
set_option linter.unusedSimpArgs false
set_option linter.unusedVariables false
set_option linter.unusedSimpArgs false
set_option linter.unusedVariables false
namespace Go.Proofs.Ytnjdkdmfeonabaa
open Go.RowKit
set_option maxRecDepth 100000

/-- An own slice of bytes as a string. -/
theorem str_of {F : Nat → Nat} {base g n c : Nat} {w : World} (hown : w.ownsRow base 5 1 (.slice (some ⟨g, 0, none⟩) n c) n (u8L F n)) (hF : ∀ j, F j < 256) :
    ∃ S : ByteArray, (convert 24 9 (.slice (some ⟨g, 0, none⟩) n c)).run Try.prog w = .ok (.string S) w ∧ S.size = n ∧ ∀ j, j < n → byN S.data.toList j = F j := by
  have hl : ((List.range n).map fun j => UInt8.ofNat (F j)).length = n := by simp
  refine ⟨⟨((List.range n).map fun j => UInt8.ofNat (F j)).toArray⟩, ?_, by show Array.size _ = n; simp, fun j hj => ?_⟩
  · have h := run_convert_bytes_back (P := Try.prog) w 24 9 5 ⟨g, 0, none⟩ c ((List.range n).map fun j => UInt8.ofNat (F j)) Try.underlying24 Try.underlying5 Try.underlying9 (fun j hj => by
      have hj' : j < n := by rw [hl] at hj; exact hj
      have e := (hown.cellAt j (by omega)).trans (u8L_at F hj')
      rw [show (⟨g, 0, none⟩ : Addr).add j = ⟨g, j, none⟩ by simp [Addr.add]; try (intro h; exact h.symm), e, List.getElem_map, List.getElem_range, UInt8.toNat_ofNat_of_lt' (hF j)])
    rw [hl] at h
    exact h
  · unfold byN
    rw [List.getD, List.getElem?_eq_getElem (by simpa using hj)]
    simp only [Option.getD_some, List.getElem_map, List.getElem_range]
    exact UInt8.toNat_ofNat_of_lt' (hF j)
set_option maxHeartbeats 4000000 in
theorem bursts_go (s : ByteArray) (f1 f2 : Int) (w : World) (h3 : 3 ≤ s.size) (h300 : s.size ≤ 300) (hg1 : -9223372036854775808 ≤ f1 ∧ f1 ≤ 9223372036854775807) (hg2 : -9223372036854775808 ≤ f2 ∧ f2 ≤ 9223372036854775807) :
    Calls Try.prog 3 #[.string s, .int .i64 f1, .int .i64 f2] w fun r w' => r = .returned (.bool true) ∧ Below w.heap.size w w' := by
  obtain ⟨i0, hi, iz0, iz1, iz2⟩ := info_parts Try.infoB
  obtain ⟨p, hp⟩ : ∃ p : Nat, f2 % 65535 = (p : Int) := ⟨(f2 % 65535).toNat, by omega⟩
  have hp1 : p < 65535 := by omega
  have HMP := hide (fun W => mod_c f2 65535 W (by omega) (by omega) hg2.1 hg2.2)
  rw [hp] at HMP
  obtain ⟨n, hn⟩ : ∃ n, s.size = n := ⟨_, rfl⟩
  rw [hn] at h3 h300
  obtain ⟨a, ha⟩ : ∃ a : Nat, f1 % (8 * (n : Int) - 15) = (a : Int) := ⟨(f1 % (8 * (n : Int) - 15)).toNat, by have := Int.emod_nonneg f1 (show (8 * (n : Int) - 15) ≠ 0 by omega); omega⟩
  have ha1 : a + 16 ≤ 8 * n := by have := Int.emod_lt_of_pos f1 (show 0 < (8 * (n : Int) - 15) by omega); omega
  have HMA := hide (fun W => mod_c f1 (8 * (n : Int) - 15) W (by omega) (by omega) hg1.1 hg1.2)
  rw [ha] at HMA
  have HCS := hide (fun W => checkOfS_c s W (by omega))
  have HF : ∀ k (h : k < s.size), (s[k]'h).toNat = byN s.data.toList k := byN_at s
  have HFL := byN_lt s.data.toList
  rw [hn] at HCS
  obtain ⟨f, hf⟩ : ∃ f, byN s.data.toList = f := ⟨_, rfl⟩
  rw [hf] at HCS HF HFL
  have hHn := hide hn
  have g1 : ¬ (n : Int) < 3 := by omega
  have g2 : ¬ (300 : Int) < (n : Int) := by omega
  clear hp ha hg1 hg2 hf
  go_enter Try.func3, Try.ntmps3
  go_upto_region 3 with (first
    | (go_at_call 4; refine (awake_c _).mono ?_; rintro e_ w1 ⟨rfl, hb1⟩))
  go_upto_region 6 with (go_at_call 5; refine (HMP.out _).mono ?_; rintro e_ w_ ⟨rfl, rfl⟩)
  go_upto_region 7 with (go_at_call 5; refine (HMA.out _).mono ?_; rintro e_ w_ ⟨rfl, rfl⟩)
  have hB1 := hb1
  obtain ⟨P, hP⟩ : ∃ P : Nat, 1 + (p : Int) = (P : Int) := ⟨1 + p, by push_cast; rfl⟩
  have hP1 : 1 ≤ P := by omega
  have hP2 : P < 65536 := by omega
  try rw [hP]
  clear hP hp1 HMP HMA
  go_wp2
  go_loopw [7, 8] (fun v i wr => ∃ k : Nat, k ≤ n ∧ i = .int .i64 k ∧ Below w.heap.size w wr ∧ wr.ownsRow w.heap.size 5 1 v k (u8L f k)) (fun _ i _ => n - (intOf i).toNat)
  case atStart => exact ⟨0, Nat.zero_le _, rfl, hB1, World.ownsRow_nil _ _ _ _⟩
  case round =>
    obtain ⟨k, hk, rfl, hbr, hown⟩ := hrel
    have hsz := hbr.size
    by_cases hlt : k < n
    · have hb := HF k (by rw [hn]; exact hlt)
      have hlt2 : k < s.size := by rw [hn]; exact hlt
      obtain ⟨A3, c3, rfl⟩ := ownsRow_slice hown
      have HN2 : Hid (u8L f (k + 1) = u8L f k ++ [.int .u8 ((f k : Nat) : Int)]) := u8L_succ f k
      have hfk := HFL k
      go_wp2_with (at_builtin; refine wpList_append_own _ rfl _ _ 24 rfl w.heap.size 5 i0 _ 1 1 Try.underlying24 hi iz0 iz1 iz2 rfl (by decide) _ _ _ rfl (hown.alloc _) ⟨wr.heap.size, 0, none⟩ 1 1 [.int .u8 ((f k : Nat) : Int)] rfl rfl (World.news_of_block (heap_alloc_new wr _)) (by simp [Value.oneCell']) (by unfold maxLen; omega) (by omega) (by simp; omega) ?_; intro v' w8 hown8 hg8 _)
      have hb8 : Below w.heap.size w w8 := (bel_alloc hbr hsz _).grown hg8 (by simp; omega) (fun j hj => by have := (hown.lt j hj).1; omega)
      go_roundw
      case rel => exact ⟨k + 1, by omega, by go_num, hb8, by rw [HN2.out]; exact hown8⟩
      case measure => simp [intOf]; omega
    · obtain rfl : k = n := by omega
      obtain ⟨g, c, rfl, hgl, hgh⟩ := own_some8 hown (by omega)
      clear HF
      go_wp2
      go_loopw [9] (fun i wr2 => ∃ m : Nat, m ≤ 16 ∧ i = .int .i64 m ∧ Below w.heap.size w wr2 ∧ wr2.ownsRow w.heap.size 5 1 (.slice (some ⟨g, 0, none⟩) k c) k (u8L (fun j => f j ^^^ errB a P m j) k)) (fun i _ => 16 - (intOf i).toNat)
      case atStart => exact ⟨0, Nat.zero_le _, rfl, hbr, by rw [show (fun j => f j ^^^ errB a P 0 j) = f from funext fun j => Nat.xor_zero _]; exact hown⟩
      case round =>
        clear hown hbr hsz hgh
        obtain ⟨m, hm, rfl, hb2, hown2⟩ := hrel
        by_cases hlm : m < 16
        · have hsa := shr_and P m hP2
          cases hbit : P.testBit m
          · have hbb : P / 2 ^ m % 2 = 0 := by
              rw [Nat.testBit_eq_decide_div_mod_eq] at hbit
              have := of_decide_eq_false hbit
              omega
            rw [hbb] at hsa
            have HN : Hid (u8L (fun j => f j ^^^ errB a P (m + 1) j) k = u8L (fun j => f j ^^^ errB a P m j) k) := u8L_congr fun j _ => by show _ ^^^ _ = _ ^^^ _; rw [errB_stay hbit]
            clear hbit
            go_wp2
            first
              | exact ⟨⟨m + 1, by omega, by go_num, hb2, by rw [HN.out]; exact hown2⟩, by simp [intOf]; omega⟩
              | (go_roundw
                 case rel => exact ⟨m + 1, by omega, by go_num, hb2, by rw [HN.out]; exact hown2⟩
                 case measure => simp [intOf]; omega)
          · have hbb : P / 2 ^ m % 2 = 1 := by
              rw [Nat.testBit_eq_decide_div_mod_eq] at hbit
              exact of_decide_eq_true hbit
            rw [hbb] at hsa
            go_upto_region 17 with fail
            obtain ⟨B, hB⟩ : ∃ B, a + m = B := ⟨_, rfl⟩
            obtain ⟨j, hj⟩ : ∃ j, B / 8 = j := ⟨_, rfl⟩
            obtain ⟨t, ht⟩ : ∃ t, B % 8 = t := ⟨_, rfl⟩
            have HST : Hid ((u8L (fun i => f i ^^^ errB a P m i) k).set j (.int .u8 (((f j ^^^ errB a P m j) ^^^ 128 / 2 ^ t : Nat) : Int)) = u8L (fun i => f i ^^^ errB a P (m + 1) i) k) := u8L_bit hbit hB hj ht
            have hjk : j < k := by omega
            have ht8 : t < 8 := by omega
            have q1 : Int.tdiv (B : Int) 8 = (j : Int) := by rw [Int.tdiv_eq_ediv_of_nonneg (by omega)]; omega
            have q2 : (B : Int) / 8 = (j : Int) := by omega
            have q3 : Int.tmod (B : Int) 8 = (t : Int) := by rw [Int.tmod_eq_emod_of_nonneg (by omega)]; omega
            have q4 : (B : Int) % 8 = (t : Int) := by omega
            have q5 : (j : Int) < (k : Int) := by omega
            have q8 : IntKind.i64.wrap (j : Int) = (j : Int) := by simp (disch := omega) only [IntWalk.i64_in]
            have q9 : IntKind.i64.wrap (t : Int) = (t : Int) := by simp (disch := omega) only [IntWalk.i64_in]
            have hx0 : wr.cell? ⟨g, j, none⟩ = some (.int .u8 ((f j ^^^ errB a P m j : Nat) : Int)) := (hown2.cellAt j (by omega)).trans (u8L_at _ hjk)
            have hxl : f j ^^^ errB a P m j < 256 := Nat.xor_lt_two_pow (n := 8) (HFL j) (errB_lt _ _ _ _)
            generalize f j ^^^ errB a P m j = X at hx0 hxl HST
            have h128 : 128 / 2 ^ t < 256 := Nat.lt_of_le_of_lt (Nat.div_le_self _ _) (by decide)
            have q6 := xor8_nat X (128 / 2 ^ t) hxl h128
            have q7 : ((128 : Int) / 2 ^ t) = ((128 / 2 ^ t : Nat) : Int) := by push_cast; rfl
            generalize 128 / 2 ^ t = D at HST h128 q6 q7
            have hfz := hown2.frozenAt j
            obtain ⟨g9, c9, hv, hg1, hg2⟩ := own_some8 hown2 (by omega)
            injection hv with hv1 hv2 hv3
            injection hv1 with hv1
            injection hv1 with hv1
            subst hv1
            have hst := (hown2.stored j (.int .u8 ((X ^^^ D : Nat) : Int))).1.drew
            rw [HST.out] at hst
            rw [show ((a : Int) + (m : Int)) = (B : Int) by omega]
            have hB' := hide hB
            have hj' := hide hj
            have ht' := hide ht
            clear hB hj ht hv2 hv3
            have hSd : wr.drew.cell? ⟨g, j, none⟩ = some (.int .u8 (X : Int)) ∧ wr.drew.cell? ⟨g, j, none⟩ = some (.int .u8 (X : Int)) := ⟨hx0, hx0⟩
            have x0d : wr.drew.cell? ⟨g, j, none⟩ = some (.int .u8 (X : Int)) := hx0
            have hfd : wr.drew.frozen? ⟨g, j, none⟩ = false := hfz
            have gz : g < wr.drew.heap.size := hg2
            refine wp_region_M (fun w' => w'.cell? ⟨g, j, none⟩ = some (.int .u8 (X : Int)) ∧ w'.cell? ⟨g, j, none⟩ = some (.int .u8 (X : Int))) 13 (by kernel_rfl) ?_
            refine AnyM.take (i := 0) (v := ?_) rfl (by kernel_rfl) (by kernel_rfl) (by kernel_rfl) (by kernel_rfl) (fun _ _ _ h => h) (Or.inl ⟨by rfl, ?_⟩) (by assumption) ?_
            rotate_left 1
            · (intro w hSw; obtain ⟨hk1, hk2⟩ := hSw; go_simp <;> with_reducible rfl)
            simp only [Act.put, List.getElem_toArray, List.getElem_cons_zero, List.setIfInBounds_toArray, List.set_cons_zero, List.set_cons_succ]
            refine AnyM.take (i := 1) (v := ?_) rfl (by kernel_rfl) (by kernel_rfl) (by kernel_rfl) (by kernel_rfl) (fun _ _ _ h => h) (Or.inl ⟨by rfl, ?_⟩) (by assumption) ?_
            rotate_left 1
            · (intro w hSw; obtain ⟨hk1, hk2⟩ := hSw; go_simp <;> with_reducible rfl)
            simp only [Act.put, List.getElem_toArray, List.getElem_cons_zero, List.getElem_cons_succ, List.setIfInBounds_toArray, List.set_cons_zero, List.set_cons_succ]
            refine AnyM.take (i := 2) (v := ?_) rfl (by kernel_rfl) (by kernel_rfl) (by kernel_rfl) (by kernel_rfl) (fun _ _ _ h => h) (Or.inl ⟨by rfl, ?_⟩) (by assumption) ?_
            rotate_left 1
            · (intro w hSw; obtain ⟨hk1, hk2⟩ := hSw; go_simp <;> with_reducible rfl)
            simp only [Act.put, List.getElem_toArray, List.getElem_cons_zero, List.getElem_cons_succ, List.setIfInBounds_toArray, List.set_cons_zero, List.set_cons_succ]
            refine AnyM.take (i := 3) (v := ?_) rfl (by kernel_rfl) (by kernel_rfl) (by kernel_rfl) (by kernel_rfl) (fun _ _ _ h => h) (Or.inl ⟨by rfl, ?_⟩) (by assumption) ?_
            rotate_left 1
            · (intro w hSw; obtain ⟨hk1, hk2⟩ := hSw; go_simp <;> with_reducible rfl)
            simp only [Act.put, List.getElem_toArray, List.getElem_cons_zero, List.getElem_cons_succ, List.setIfInBounds_toArray, List.set_cons_zero, List.set_cons_succ]
            refine AnyM.take (i := 4) (v := ?_) rfl (by kernel_rfl) (by kernel_rfl) (by kernel_rfl) (by kernel_rfl) (fun _ _ _ h => h) (Or.inl ⟨by rfl, ?_⟩) (by assumption) ?_
            rotate_left 1
            · (intro w hSw; obtain ⟨hk1, hk2⟩ := hSw; go_simp <;> with_reducible rfl)
            simp only [Act.put, List.getElem_toArray, List.getElem_cons_zero, List.getElem_cons_succ, List.setIfInBounds_toArray, List.set_cons_zero, List.set_cons_succ]
            refine AnyM.take (i := 5) (v := ?_) rfl (by kernel_rfl) (by kernel_rfl) (by kernel_rfl) (by kernel_rfl) (fun _ _ _ h => h) (Or.inl ⟨by rfl, ?_⟩) (by assumption) ?_
            rotate_left 1
            · (intro w hSw; obtain ⟨hk1, hk2⟩ := hSw; go_simp <;> with_reducible rfl)
            simp only [Act.put, List.getElem_toArray, List.getElem_cons_zero, List.getElem_cons_succ, List.setIfInBounds_toArray, List.set_cons_zero, List.set_cons_succ]
            refine AnyM.take (i := 6) (v := ?_) rfl (by kernel_rfl) (by kernel_rfl) (by kernel_rfl) (by kernel_rfl) (fun _ _ _ h => h) (Or.inl ⟨by rfl, ?_⟩) (by assumption) ?_
            rotate_left 1
            · (intro w hSw; obtain ⟨hk1, hk2⟩ := hSw; go_simp <;> with_reducible rfl)
            simp only [Act.put, List.getElem_toArray, List.getElem_cons_zero, List.getElem_cons_succ, List.setIfInBounds_toArray, List.set_cons_zero, List.set_cons_succ]
            refine AnyM.take (i := 7) (v := ?_) rfl (by kernel_rfl) (by kernel_rfl) (by kernel_rfl) (by kernel_rfl) (fun _ _ _ h => h) (Or.inl ⟨by rfl, ?_⟩) (by assumption) ?_
            rotate_left 1
            · (intro w hSw; obtain ⟨hk1, hk2⟩ := hSw; go_simp <;> with_reducible rfl)
            simp only [Act.put, List.getElem_toArray, List.getElem_cons_zero, List.getElem_cons_succ, List.setIfInBounds_toArray, List.set_cons_zero, List.set_cons_succ]
            refine AnyM.take (i := 8) (v := ?_) rfl (by kernel_rfl) (by kernel_rfl) (by kernel_rfl) (by kernel_rfl) (fun _ _ _ h => h) (Or.inl ⟨by rfl, ?_⟩) (by assumption) ?_
            rotate_left 1
            · (intro w hSw; obtain ⟨hk1, hk2⟩ := hSw; go_simp <;> with_reducible rfl)
            simp only [Act.put, List.getElem_toArray, List.getElem_cons_zero, List.getElem_cons_succ, List.setIfInBounds_toArray, List.set_cons_zero, List.set_cons_succ]
            refine AnyM.take (i := 9) (v := ?_) rfl (by kernel_rfl) (by kernel_rfl) (by kernel_rfl) (by kernel_rfl) (fun _ _ _ h => h) (Or.inl ⟨by rfl, ?_⟩) (by assumption) ?_
            rotate_left 1
            · (intro w hSw; obtain ⟨hk1, hk2⟩ := hSw; go_simp <;> with_reducible rfl)
            simp only [Act.put, List.getElem_toArray, List.getElem_cons_zero, List.getElem_cons_succ, List.setIfInBounds_toArray, List.set_cons_zero, List.set_cons_succ]
            refine AnyM.take (i := 10) (v := ?_) rfl (by kernel_rfl) (by kernel_rfl) (by kernel_rfl) (by kernel_rfl) (fun _ _ _ h => h) (Or.inl ⟨by rfl, ?_⟩) (by assumption) ?_
            rotate_left 1
            · (intro w hSw; obtain ⟨hk1, hk2⟩ := hSw; go_simp <;> with_reducible rfl)
            simp only [Act.put, List.getElem_toArray, List.getElem_cons_zero, List.getElem_cons_succ, List.setIfInBounds_toArray, List.set_cons_zero, List.set_cons_succ]
            refine AnyM.take (i := 11) (v := ?_) rfl (by kernel_rfl) (by kernel_rfl) (by kernel_rfl) (by kernel_rfl) (fun _ _ _ h => h) (Or.inl ⟨by rfl, ?_⟩) (by assumption) ?_
            rotate_left 1
            · (intro w hSw; obtain ⟨hk1, hk2⟩ := hSw; go_simp <;> with_reducible rfl)
            simp only [Act.put, List.getElem_toArray, List.getElem_cons_zero, List.getElem_cons_succ, List.setIfInBounds_toArray, List.set_cons_zero, List.set_cons_succ]
            refine AnyM.take (i := 12) (v := ?_) rfl (by kernel_rfl) (by kernel_rfl) (by kernel_rfl) (by kernel_rfl) (fun _ _ _ h => h) (Or.inl ⟨by rfl, ?_⟩) (by assumption) ?_
            rotate_left 1
            · (intro w hSw; obtain ⟨hk1, hk2⟩ := hSw; go_simp <;> with_reducible rfl)
            simp only [Act.put, List.getElem_toArray, List.getElem_cons_zero, List.getElem_cons_succ, List.setIfInBounds_toArray, List.set_cons_zero, List.set_cons_succ]
            refine AnyM.next [13] (by kernel_rfl) (by simp) ?_
            refine NextM.cons rfl (fun K hK => ?_) NextM.nil
            go_simp
            refine hK _ _ (fun h => by simp at h) ?_
            clear hK K
            refine AnyM.done (by kernel_rfl) ?_ _
            obtain ⟨w9, hw9⟩ : ∃ w9, (wr.setCell ⟨g, j, none⟩ (.int .u8 ((X ^^^ D : Nat) : Int))).drew = w9 := ⟨_, rfl⟩
            have hb9 : Below w.heap.size w w9 := by rw [← hw9]; exact (hb2.setCell hg1 _).drew
            rw [hw9] at hst ⊢
            clear hw9 hSd x0d hfd gz hx0 hfz hB' hj' ht' HST hown2 hb2 hg2
            go_wp2
            first
              | exact ⟨⟨m + 1, by omega, by go_num, hb9, hst⟩, by simp [intOf]; omega⟩
              | (go_roundw
                 case rel => exact ⟨m + 1, by omega, by go_num, hb9, hst⟩
                 case measure => simp [intOf]; omega)
        · obtain rfl : m = 16 := by omega
          have hne := burst_ne f a P k ha1 hP1 hP2
          have hC1 := crcN_lt (c₀ := 65535) (d := f) (by decide) HFL k
          have hFL : ∀ j, f j ^^^ errB a P 16 j < 256 := fun j => Nat.xor_lt_two_pow (n := 8) (HFL j) (errB_lt _ _ _ _)
          have hC2 := crcN_lt (c₀ := 65535) (d := fun j => f j ^^^ errB a P 16 j) (by decide) hFL k
          obtain ⟨S, hcv, hSs, hSb⟩ := str_of hown2 hFL
          have HC2 := hide (fun W => checkOfS_c S W (by omega))
          rw [crcN_congr (d := byN S.data.toList) (d' := fun j => f j ^^^ errB a P 16 j) (n := S.size) (fun j hj => hSb j (by omega)), hSs] at HC2
          generalize crcN 65535 (fun j => f j ^^^ errB a P 16 j) k = C2 at hC2 hne HC2
          generalize crcN 65535 f k = C1 at hC1 hne HCS
          have o1 : outB (C1 : Int) 0 65535 = false := outB_false.2 (by omega)
          have o2 : outB (C2 : Int) 0 65535 = false := outB_false.2 (by omega)
          have e1 : ((C1 : Int) != (C2 : Int)) = true := by simp; omega
          have e2 : ¬ (C1 : Int) = (C2 : Int) := by omega
          clear hne hC1 hC2 hFL hSb hown2
          go_upto_region 19 with (go_at_call 6; refine (HCS.out _).mono ?_; rintro e_ w_ ⟨rfl, rfl⟩)
          go_upto_region 20 with (go_at_call 6; refine (HC2.out _).mono ?_; rintro e_ w_ ⟨rfl, rfl⟩)
          go_wp2_with (first | (go_at_call 7; refine (within_c _ _ _ _).mono ?_; rintro e_ w_ ⟨rfl, rfl⟩; first | rw [o1] | rw [o2]))
          go_ret
          exact ⟨rfl, hb2⟩
set_option maxHeartbeats 2000000 in
theorem burstsLaw_c (s : ByteArray) (f1 f2 : Int) (w : World) (hs : s.size ≤ maxLen) (hg1 : -9223372036854775808 ≤ f1 ∧ f1 ≤ 9223372036854775807) (hg2 : -9223372036854775808 ≤ f2 ∧ f2 ≤ 9223372036854775807) :
    Calls Try.prog 3 #[.string s, .int .i64 f1, .int .i64 f2] w fun r w' => r = .returned (.bool true) ∧ Below w.heap.size w w' := by
  by_cases h3 : 3 ≤ s.size
  · by_cases h300 : s.size ≤ 300
    · exact bursts_go s f1 f2 w h3 h300 hg1 hg2
    · have g1 : ¬ (s.size : Int) < 3 := by omega
      have g2 : (300 : Int) < (s.size : Int) := by omega
      clear h3 h300
      go_enter Try.func3, Try.ntmps3
      go_wp2_with (first
        | (go_at_call 4; refine (awake_c _).mono ?_; rintro e_ w1 ⟨rfl, hb1⟩))
      go_ret
      exact ⟨rfl, hb1⟩
  · have g1 : (s.size : Int) < 3 := by omega
    clear h3
    go_enter Try.func3, Try.ntmps3
    go_wp2_with (first
      | (go_at_call 4; refine (awake_c _).mono ?_; rintro e_ w1 ⟨rfl, hb1⟩))
    go_ret
    exact ⟨rfl, hb1⟩
end Go.Proofs.Ytnjdkdmfeonabaa
