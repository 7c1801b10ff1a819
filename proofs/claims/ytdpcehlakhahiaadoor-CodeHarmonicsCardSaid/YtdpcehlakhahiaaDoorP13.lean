/- Contracts: the powers of harmonics in frames, as the reference has them. -/
import Derived.Test.YtdpcehlakhahiaaDoorP12
namespace Go.Proofs.YtdpcehlakhahiaaDoor
open Go.RowKit
set_option maxRecDepth 100000


theorem blockNs_past {us : List Bool} {m : Nat} (h : us.length ≤ 4 * m + 3) : ∀ d, blockNs us (m + d) = blockNs us m
  | 0 => rfl
  | d + 1 => by
    rw [← Nat.add_assoc, blockNs_succ_no, blockNs_past h d]
    exact allU_false (q := 3) (by omega) (by simp [List.getD, show us.length ≤ 4 * (m + d) + 3 by omega])
theorem pow4_length (t : Nat → Int) : (pow4 t).length = 4 := rfl
theorem pow4_congr {s t : Nat → Int} (h : ∀ n, n < 4 → s n = t n) : pow4 s = pow4 t := by
  unfold pow4; rw [h 0 (by omega), h 1 (by omega), h 2 (by omega), h 3 (by omega)]
theorem Fr.parts {f : Fr} (h : f.err = 0) : (∀ g ∈ f.samples, gle 2000000 g) ∧ f.samples.length ≤ 64 := by
  obtain ⟨hh, hsamp, _⟩ := frameE_zero h
  obtain ⟨_, _, l1, l2, n1, n2⟩ := headE_zero hh
  exact ⟨fun q hq => by have := hsamp q hq; simp only [gle]; omega, by omega⟩

/-- What has been summed of a frame: t, and the powers of its blocks below j. -/
def upTo (t : Nat → Int) (samples : List (Int × Int)) (us : List Bool) (j n : Nat) : Int := t n + pwSum samples (blockNs us j) n

set_option maxHeartbeats 4000000 in
theorem refPowersOf_c (l : List Fr) (F : Option Addr) (c : Nat) (w : World) (hr : Rd w F (l.map Fr.row).flatten) (hok : ∀ f ∈ l, f.ok w) (herr : ∀ f ∈ l, f.err = 0) (hl : l.length ≤ 4) :
    Calls Tryd.prog 28 #[.slice F l.length c] w fun r w' => r = .returned (.agg #[.int .i64 (powSum l 0), .int .i64 (powSum l 1), .int .i64 (powSum l 2), .int .i64 (powSum l 3)]) ∧ Below w.heap.size w w' := by
  have hQ := Blk.two w 48 48 [.int .i64 0, .int .i64 0, .int .i64 0, .int .i64 0] [.int .i64 0, .int .i64 0, .int .i64 0, .int .i64 0]
  have hP := (Blk.new w 48 [.int .i64 0, .int .i64 0, .int .i64 0, .int .i64 0]).bel (alloc_bel _ (.cells #[.int .i64 0, .int .i64 0, .int .i64 0, .int .i64 0] 48))
  have HOK := hide hok
  have HER := hide herr
  clear hok herr
  go_enter Tryd.func28, Tryd.ntmps28
  go_wp2
  obtain ⟨V, hV⟩ : ∃ V, (w.alloc (.cells #[.int .i64 0, .int .i64 0, .int .i64 0, .int .i64 0] 48)).alloc (.cells #[.int .i64 0, .int .i64 0, .int .i64 0, .int .i64 0] 48) = V := ⟨_, rfl⟩
  have hwV : Below w.heap.size w V := by rw [← hV]; exact (alloc_bel _ _).alloc (by simp) _
  have hPV : Blk V w.heap.size 48 [.int .i64 0, .int .i64 0, .int .i64 0, .int .i64 0] := by rw [← hV]; exact hP
  have hQV : Blk V (w.heap.size + 1) 48 (pow4 (powSum (l.take 0))) := by rw [← hV]; exact hQ
  rw [hV]
  clear hV hP hQ
  obtain ⟨q, hq⟩ : ∃ q, w.heap.size + 1 = q := ⟨_, rfl⟩
  rw [hq] at hQV ⊢
  have HI := hide (show w.heap.size < q by omega)
  clear hq
  go_loopw [4] (fun i wr => ∃ k : Nat, k ≤ l.length ∧ i = .int .i64 k ∧ Below w.heap.size w wr ∧ Blk wr w.heap.size 48 [.int .i64 0, .int .i64 0, .int .i64 0, .int .i64 0] ∧ Blk wr q 48 (pow4 (powSum (l.take k)))) (fun i _ => l.length - (intOf i).toNat)
  case atStart => exact ⟨0, Nat.zero_le _, rfl, hwV, hPV, hQV⟩
  case round =>
    clear hwV hPV hQV
    obtain ⟨k, hk, rfl, hbr, hP, hQ⟩ := hrel
    by_cases hlt : k < l.length
    · obtain ⟨bF, oF, rfl, hbF, s0, s1, s2, s3⟩ := hr.fr_at hlt
      have hfm : l[k] ∈ l := List.getElem_mem hlt
      have hokf := HOK.out _ hfm
      obtain ⟨hsb, hsl⟩ := Fr.parts (HER.out _ hfm)
      have HT : Hid (∀ n, powSum (l.take (k + 1)) n = upTo (powSum (l.take k)) l[k].samples (usableL l[k].limit l[k].samples l[k].gaps) (l[k].samples.length / 4) n) := fun n => by
        rw [List.take_succ_eq_append_getElem hlt]
        show ((l.take k ++ [l[k]]).map fun f => f.pows n).sum = ((l.take k).map fun f => f.pows n).sum + _
        rw [List.map_append, List.sum_append, List.map_singleton, List.sum_singleton]
        rfl
      have HB : Hid (∀ n, 0 ≤ powSum (l.take k) n ∧ powSum (l.take k) n ≤ 8192000000000000) := fun n => by
        have := powSum_bd n (l := l.take k) (fun f hf => HER.out f (List.mem_of_mem_take hf))
        rw [List.length_take] at this
        omega
      have HF : Hid (∀ W, Below w.heap.size w W → W.cell? ⟨bF, oF + k * 4, none⟩ = some (.int .i64 l[k].gain) ∧ W.cell? ⟨bF, oF + k * 4 + 1, none⟩ = some (.int .i64 l[k].limit) ∧ W.cell? ⟨bF, oF + k * 4 + 2, none⟩ = some (.slice l[k].A l[k].samples.length l[k].cA) ∧ W.cell? ⟨bF, oF + k * 4 + 3, none⟩ = some (.slice l[k].G l[k].gaps.length l[k].cG)) := fun W hb =>
        ⟨(hb.cell (p := ⟨bF, _, none⟩) hbF).trans s0, (hb.cell (p := ⟨bF, _, none⟩) hbF).trans s1, (hb.cell (p := ⟨bF, _, none⟩) hbF).trans s2, (hb.cell (p := ⟨bF, _, none⟩) hbF).trans s3⟩
      clear s0 s1 s2 s3 hr
      have hul : (usableL l[k].limit l[k].samples l[k].gaps).length = l[k].samples.length := by simp [usableL]
      have HW := hide (fun (j : Nat) (h : j ≤ 1000) W (hb : Below w.heap.size w W) => refWhole_c l[k].gain l[k].limit l[k].A l[k].G l[k].cA l[k].cG l[k].samples l[k].gaps j W (hokf.1.bel hb) (hokf.2.1.bel hb) hokf.2.2.2 h hsb)
      have HH := hide (fun (j n : Nat) (h1 : 4 * j + 3 < l[k].samples.length) (h2 : n < 4) W (hb : Below w.heap.size w W) => refHarmonic_c l[k].gain l[k].limit l[k].A l[k].G l[k].cA l[k].cG l[k].samples l[k].gaps.length j n W (hokf.1.bel hb) (by omega) h1 h2 hsb)
      have HPW := hide (fun j n => pw_bd hsb j n)
      have HPS := hide (fun n js => pwSum_bd hsb n js)
      have HHB := hide (fun j n => harmB_bd hsb j n)
      clear hokf hsb hfm
      generalize usableL l[k].limit l[k].samples l[k].gaps = us at HT hul HW
      generalize l[k].gain = fg at HF HW HH
      generalize l[k].limit = fl at HF HW HH
      generalize l[k].A = fA at HF HW HH
      generalize l[k].cA = fcA at HF HW HH
      generalize l[k].G = fG at HF HW HH
      generalize l[k].cG = fcG at HF HW HH
      generalize l[k].gaps = fgs at HF HW HH
      generalize l[k].samples = sm at HF HW HH HT hul hsl HPW HPS HHB
      generalize powSum (l.take k) = T at HT HB hQ
      have ix0 : (0 : Int) ≤ (k : Int) := by omega
      have ix1 : (k : Int) < (l.length : Int) := by omega
      have hQ : Blk wr q 48 (pow4 (upTo T sm us 0)) := by rw [show pow4 (upTo T sm us 0) = pow4 T from pow4_congr fun n _ => by simp [upTo, pwSum, blockNs]]; exact hQ
      go_wp2
      go_loopw [5] (fun i wr => ∃ j : Nat, 4 * j ≤ sm.length + 3 ∧ i = .int .i64 (4 * (j : Int)) ∧ Below w.heap.size w wr ∧ Blk wr w.heap.size 48 [.int .i64 0, .int .i64 0, .int .i64 0, .int .i64 0] ∧ Blk wr q 48 (pow4 (upTo T sm us j))) (fun i _ => sm.length + 4 - (intOf i).toNat)
      case atStart => exact ⟨0, by omega, rfl, hbr, hP, hQ⟩
      case round =>
        clear hbr hP hQ
        obtain ⟨j, hj, rfl, hbr, hP, hQ⟩ := hrel
        have wa : IntKind.i64.wrap (4 * (j : Int) + 4) = 4 * (j : Int) + 4 := by simp (disch := omega) only [IntWalk.i64_in]
        by_cases hlj : 4 * j < sm.length
        · obtain ⟨s0, s1, s2, s3⟩ := HF.out _ hbr
          have d1 : decide (4 * (j : Int) < (sm.length : Int)) = true := by simp; omega
          have hQ : Blk wr q 48 (pow4 (tm (upTo T sm us j) sm j 0)) := by rw [show pow4 (tm (upTo T sm us j) sm j 0) = pow4 (upTo T sm us j) from pow4_congr fun n _ => by simp [tm]]; exact hQ
          go_wp2
          clear s0 s1 s2 s3
          go_loopw [6] (fun i wr => ∃ m : Nat, m ≤ 4 ∧ i = .int .i64 m ∧ (m = 0 ∨ allU us (4 * j) = true) ∧ Below w.heap.size w wr ∧ Blk wr w.heap.size 48 [.int .i64 0, .int .i64 0, .int .i64 0, .int .i64 0] ∧ Blk wr q 48 (pow4 (tm (upTo T sm us j) sm j m))) (fun i _ => 4 - (intOf i).toNat)
          case atStart => exact ⟨0, by omega, rfl, .inl rfl, hbr, hP, hQ⟩
          case round =>
            clear hbr hP hQ
            obtain ⟨m, hm, rfl, hmu, hbr, hP, hQ⟩ := hrel
            obtain ⟨s0, s1, s2, s3⟩ := HF.out _ hbr
            by_cases hlm : m < 4
            · have HWj := hide (HW.out j (by omega) _ hbr)
              cases hu : allU us (4 * j)
              · rw [hu] at HWj hmu
                obtain rfl : m = 0 := by rcases hmu with h | h; exact h; cases h
                have hQ : Blk wr q 48 (pow4 (upTo T sm us (j + 1))) := by
                  rw [show pow4 (upTo T sm us (j + 1)) = pow4 (tm (upTo T sm us j) sm j 0) from pow4_congr fun n _ => by simp [tm, upTo, blockNs_succ_no hu]]; exact hQ
                clear hu hmu
                go_wp2_with (first | (go_at_call 75; refine HWj.out.mono ?_; rintro e w6 ⟨rfl, hb6⟩))
                go_roundw
                case rel => exact ⟨j + 1, by omega, by congr 1, bel_tr hbr hbr.size hb6, hP.bel hb6, hQ.bel hb6⟩
                case measure => simp [intOf]; omega
              · rw [hu] at HWj
                have hin : 4 * j + 3 < sm.length := by
                  have h3 := allU_iff.1 hu 3 (by omega)
                  by_cases e : 4 * j + 3 < sm.length
                  · exact e
                  · rw [show us.getD (4 * j + 3) false = false by simp [List.getD, show us.length ≤ 4 * j + 3 by omega]] at h3
                    cases h3
                have HHj := hide (HH.out j m hin hlm)
                have hgl := HHB.out j m
                have HGN := hide (fun W => show Calls Tryd.prog 39 #[.agg #[.int .i64 (harmB sm j m).1, .int .i64 (harmB sm j m).2]] W fun r w' => r = .returned (.int .i64 (pw sm j m)) ∧ Below W.heap.size W w' from gnorm_c (harmB sm j m) W (by obtain ⟨e1, e2, e3, e4⟩ := hgl; unfold Mid; omega))
                have hB0 := HB.out m
                have hps := HPS.out m (blockNs us j)
                have hbl := blockNs_length us j
                have hpw := HPW.out j m
                have htv : 0 ≤ upTo T sm us j m ∧ upTo T sm us j m ≤ 30000000000000000 := by unfold upTo; omega
                have HSET := hide (pow4_set (upTo T sm us j) sm j m hlm)
                have HAT : Hid ((pow4 (tm (upTo T sm us j) sm j m))[m]? = some (.int .i64 (upTo T sm us j m))) := by
                  have := pow4_at (tm (upTo T sm us j) sm j m) m hlm
                  rwa [show tm (upTo T sm us j) sm j m m = upTo T sm us j m by simp [tm]] at this
                clear hu hmu hps hbl hB0 hgl
                obtain ⟨hx, hy⟩ : ∃ hx : Int, (harmB sm j m).1 = hx := ⟨_, rfl⟩
                obtain ⟨hz, hw⟩ : ∃ hz : Int, (harmB sm j m).2 = hz := ⟨_, rfl⟩
                rw [hy, hw] at HHj HGN
                clear hy hw
                generalize upTo T sm us j m = tv at htv HSET HAT
                generalize pw sm j m = pv at HGN HSET hpw
                have wv : IntKind.i64.wrap (tv + pv) = tv + pv := by simp (disch := omega) only [IntWalk.i64_in]
                have ixm0 : (0 : Int) ≤ (m : Int) := by omega
                have ixm1 : (m : Int) < 4 := by omega
                go_upto_region 11 with (first | (go_at_call 75; refine HWj.out.mono ?_; rintro e w6 ⟨rfl, hb6⟩))
                have hB6 := bel_tr hbr hbr.size hb6
                obtain ⟨s0, s1, s2, s3⟩ := HF.out _ hB6
                have hQ6 := hQ.bel hb6
                have HP6 := hide (hP.bel hb6)
                have hbFl : bF < w6.heap.size := Nat.lt_of_lt_of_le hbF hB6.size
                have hql := hQ6.lt
                have hcm := hQ6.cell m
                rw [HAT.out] at hcm
                have HQ6 := hide hQ6
                clear hP hQ hQ6 HWj hbr hb6
                refine wp_region_M (fun w' => (∀ b o, b < w6.heap.size → w'.cell? ⟨b, o, none⟩ = w6.cell? ⟨b, o, none⟩) ∧ Below w6.heap.size w6 w') 14 (by kernel_rfl) ?_
                have hSd := kp_refl w6
                refine AnyM.take (i := 0) (v := ?_) rfl (by kernel_rfl) (by kernel_rfl) (by kernel_rfl) (by kernel_rfl) (fun _ _ _ h => h) (Or.inl ⟨by rfl, ?_⟩) (by assumption) ?_
                rotate_left 1
                · (intro w hSw; (try dsimp only at hSw); go_simp <;> with_reducible rfl)
                try simp only [Act.put]
                refine AnyM.take (i := 1) (v := ?_) rfl (by kernel_rfl) (by kernel_rfl) (by kernel_rfl) (by kernel_rfl) (fun _ _ _ h => h) (Or.inl ⟨by rfl, ?_⟩) (by assumption) ?_
                rotate_left 1
                · (intro w hSw; (try dsimp only at hSw); go_simp <;> with_reducible rfl)
                try simp only [Act.put]
                refine AnyM.take (i := 2) (v := ?_) rfl (by kernel_rfl) (by kernel_rfl) (by kernel_rfl) (by kernel_rfl) (fun _ _ _ h => h) (Or.inl ⟨by rfl, ?_⟩) (by assumption) ?_
                rotate_left 1
                · (intro w hSw; (try dsimp only at hSw); go_simp <;> with_reducible rfl)
                try simp only [Act.put]
                refine AnyM.take (i := 3) (v := ?_) rfl (by kernel_rfl) (by kernel_rfl) (by kernel_rfl) (by kernel_rfl) (fun _ _ _ h => h) (Or.inl ⟨by rfl, ?_⟩) (by assumption) ?_
                rotate_left 1
                · (intro w hSw; (try dsimp only at hSw); go_simp <;> with_reducible rfl)
                try simp only [Act.put]
                refine AnyM.take (i := 4) (v := ?_) rfl (by kernel_rfl) (by kernel_rfl) (by kernel_rfl) (by kernel_rfl) (fun _ _ _ h => h) (Or.inl ⟨by rfl, ?_⟩) (by assumption) ?_
                rotate_left 1
                · (intro w hSw; (try dsimp only at hSw); go_simp <;> with_reducible rfl)
                try simp only [Act.put]
                refine AnyM.take (i := 5) (v := ?_) rfl (by kernel_rfl) (by kernel_rfl) (by kernel_rfl) (by kernel_rfl) (fun _ _ _ h => h) (Or.inl ⟨by rfl, ?_⟩) (by assumption) ?_
                rotate_left 1
                · (intro w hSw; (try dsimp only at hSw); go_simp <;> with_reducible rfl)
                try simp only [Act.put]
                refine AnyM.take (i := 6) (v := ?_) rfl (by kernel_rfl) (by kernel_rfl) (by kernel_rfl) (by kernel_rfl) (fun _ _ _ h => h) (Or.inl ⟨by rfl, ?_⟩) (by assumption) ?_
                rotate_left 1
                · (intro w hSw; (try dsimp only at hSw); go_simp <;> with_reducible rfl)
                try simp only [Act.put]
                refine AnyM.take (i := 7) (v := ?_) rfl (by kernel_rfl) (by kernel_rfl) (by kernel_rfl) (by kernel_rfl) (fun _ _ _ h => h) (Or.inl ⟨by rfl, ?_⟩) (by assumption) ?_
                rotate_left 1
                · (intro w hSw; (try dsimp only at hSw); go_simp <;> with_reducible rfl)
                try simp only [Act.put]
                refine AnyM.take (i := 8) (v := ?_) rfl (by kernel_rfl) (by kernel_rfl) (by kernel_rfl) (by kernel_rfl) (fun _ _ _ h => h) (Or.inl ⟨by rfl, ?_⟩) (by assumption) ?_
                rotate_left 1
                · (intro w hSw; (try dsimp only at hSw); go_simp <;> with_reducible rfl)
                try simp only [Act.put]
                refine AnyM.take (i := 9) (v := ?_) rfl (by kernel_rfl) (by kernel_rfl) (by kernel_rfl) (by kernel_rfl) (fun _ _ _ h => h) (Or.inl ⟨by rfl, ?_⟩) (by assumption) ?_
                rotate_left 1
                · (intro w hSw; (try dsimp only at hSw); go_simp <;> with_reducible rfl)
                try simp only [Act.put]
                refine AnyM.next [10] (by kernel_rfl) (by simp) ?_
                refine NextM.cons rfl (fun K hK => ?_) NextM.nil
                go_simp
                refine (HHj.out _ (bel_tr hB6 hB6.size hSd.2)).mono ?_
                rintro e w7 ⟨rfl, hb7⟩
                have hB7 := bel_tr hSd.2 hSd.2.size hb7
                clear hSd
                have hSd := kp hB7
                try dsimp only
                refine hK.out _ _ (fun _ => hSd) ?_
                clear hK K
                try simp only [Act.put]
                refine AnyM.next [11] (by kernel_rfl) (by simp) ?_
                refine NextM.cons rfl (fun K hK => ?_) NextM.nil
                go_simp
                refine (HGN.out _).mono ?_
                rintro e w8 ⟨rfl, hb8⟩
                have hB8 := bel_tr hB7 hB7.size hb8
                clear hSd
                have hSd := kp hB8
                try dsimp only
                refine hK.out _ _ (fun _ => hSd) ?_
                clear hK K
                try simp only [Act.put]
                refine AnyM.take (i := 12) (v := ?_) rfl (by kernel_rfl) (by kernel_rfl) (by kernel_rfl) (by kernel_rfl) (fun _ _ _ h => h) (Or.inl ⟨by rfl, ?_⟩) (by assumption) ?_
                rotate_left 1
                · (intro w hSw; (try dsimp only at hSw); go_simp <;> with_reducible rfl)
                try simp only [Act.put]
                refine AnyM.take (i := 13) (v := ?_) rfl (by kernel_rfl) (by kernel_rfl) (by kernel_rfl) (by kernel_rfl) (fun _ _ _ h => h) (Or.inl ⟨by rfl, ?_⟩) (by assumption) ?_
                rotate_left 1
                · (intro w hSw; (try dsimp only at hSw); go_simp <;> with_reducible rfl)
                try simp only [Act.put]
                refine AnyM.next [14] (by kernel_rfl) (by simp) ?_
                refine NextM.cons rfl (fun K hK => ?_) NextM.nil
                have hQ8 := HQ6.out.bel hB8
                have hP8 := HP6.out.bel hB8
                have ym := hQ8.cell m
                rw [HAT.out] at ym
                have fm := hQ8.frozen m
                go_simp
                refine hK.out _ _ (fun h => by simp at h) ?_
                clear hK K
                try simp only [Act.put]
                refine AnyM.done (by kernel_rfl) ?_ _
                have hi := HI.out
                have hQE := hQ8.set_ m (.int .i64 (tv + pv))
                rw [HSET.out] at hQE
                have hPE := hP8.far (p := ⟨q, m, none⟩) (by show w.heap.size ≠ q; omega) (.int .i64 (tv + pv))
                have hbE : Below w.heap.size w (w8.setCell ⟨q, m, none⟩ (.int .i64 (tv + pv))) := (bel_tr hB6 hB6.size hB8).setCell (p := ⟨q, m, none⟩) (by show w.heap.size ≤ q; omega) _
                generalize w8.setCell ⟨q, m, none⟩ (.int .i64 (tv + pv)) = WE at hQE hPE hbE ⊢
                clear hSd hB7 hB8 hb7 hb8 hQ8 hP8 ym fm hi hcm
                go_wp2
                go_roundw
                case rel => exact ⟨m + 1, by omega, by go_num, .inr trivial, hbE, hPE, hQE⟩
                case measure => simp [intOf]; omega
            · obtain rfl : m = 4 := by omega
              have hu : allU us (4 * j) = true := by rcases hmu with h | h; omega; exact h
              have hQ : Blk wr q 48 (pow4 (upTo T sm us (j + 1))) := by
                rw [show pow4 (upTo T sm us (j + 1)) = pow4 (tm (upTo T sm us j) sm j 4) from pow4_congr fun n hn => by
                  simp only [tm, if_pos hn, upTo, blockNs_succ_yes hu, pwSum_snoc]; omega]
                exact hQ
              clear hu hmu
              go_wp2
              go_roundw
              case rel => exact ⟨j + 1, by omega, by congr 1, hbr, hP, hQ⟩
              case measure => simp [intOf]; omega
        · obtain ⟨s0, s1, s2, s3⟩ := HF.out _ hbr
          have d1 : decide (4 * (j : Int) < (sm.length : Int)) = false := by simp; omega
          have hQ : Blk wr q 48 (pow4 (powSum (l.take (k + 1)))) := by
            obtain ⟨d, hd⟩ : ∃ d, j = sm.length / 4 + d := ⟨j - sm.length / 4, by omega⟩
            rw [show pow4 (powSum (l.take (k + 1))) = pow4 (upTo T sm us j) from pow4_congr fun n _ => by
              rw [HT.out, hd]; unfold upTo; rw [blockNs_past (by omega)]]
            exact hQ
          go_wp2
          go_roundw
          case rel => exact ⟨k + 1, by omega, by go_num, hbr, hP, hQ⟩
          case measure => simp [intOf]; omega
    · obtain rfl : k = l.length := by omega
      rw [List.take_length] at hQ
      have hi := HI.out
      have c0 := hP.cell 0; have c1 := hP.cell 1; have c2 := hP.cell 2; have c3 := hP.cell 3; simp only [List.getElem?_cons_zero, List.getElem?_cons_succ] at c0 c1 c2 c3
      have t0 := hQ.cell 0
      have t1 := hQ.cell 1
      have t2 := hQ.cell 2
      have t3 := hQ.cell 3
      simp only [pow4, List.getElem?_cons_zero, List.getElem?_cons_succ] at t0 t1 t2 t3
      have f0 := hP.frozen 0
      have f1 := hP.frozen 1
      have f2 := hP.frozen 2
      have f3 := hP.frozen 3
      have hE := (((hP.set_ 0 (.int .i64 (powSum l 0))).set_ 1 (.int .i64 (powSum l 1))).set_ 2 (.int .i64 (powSum l 2))).set_ 3 (.int .i64 (powSum l 3))
      simp only [List.set_cons_zero, List.set_cons_succ] at hE
      have hbE : Below w.heap.size w ((((wr.setCell ⟨w.heap.size, 0, none⟩ (.int .i64 (powSum l 0))).setCell ⟨w.heap.size, 1, none⟩ (.int .i64 (powSum l 1))).setCell ⟨w.heap.size, 2, none⟩ (.int .i64 (powSum l 2))).setCell ⟨w.heap.size, 3, none⟩ (.int .i64 (powSum l 3))) :=
        (((hbr.setCell (p := ⟨w.heap.size, 0, none⟩) (Nat.le_refl _) _).setCell (p := ⟨w.heap.size, 1, none⟩) (Nat.le_refl _) _).setCell (p := ⟨w.heap.size, 2, none⟩) (Nat.le_refl _) _).setCell (p := ⟨w.heap.size, 3, none⟩) (Nat.le_refl _) _
      go_wp2
      generalize (((wr.setCell ⟨w.heap.size, 0, none⟩ (.int .i64 (powSum l 0))).setCell ⟨w.heap.size, 1, none⟩ (.int .i64 (powSum l 1))).setCell ⟨w.heap.size, 2, none⟩ (.int .i64 (powSum l 2))).setCell ⟨w.heap.size, 3, none⟩ (.int .i64 (powSum l 3)) = WE at hE hbE ⊢
      have z0 := hE.cell 0; have z1 := hE.cell 1; have z2 := hE.cell 2; have z3 := hE.cell 3; simp only [List.getElem?_cons_zero, List.getElem?_cons_succ] at z0 z1 z2 z3
      refine bodyPost_ret (by simp [results, Tryd.results28, go_sem, z0, z1, z2, z3]; try rfl) rfl ?_
      exact ⟨rfl, hbE⟩
end Go.Proofs.YtdpcehlakhahiaaDoor
