/- Contracts: the powers of harmonics in frames. -/
import Derived.Test.YtmedjedmeggbpaaDoorW22
import Derived.Test.YtmedjedmeggbpaaDoorPow2
import Derived.Test.YtmedjedmeggbpaaDoorMarks
import Derived.Test.YtmedjedmeggbpaaDoorIter2
import Derived.Test.YtmedjedmeggbpaaDoorW5
import Derived.Shelf.RegionOpen
namespace Go.Proofs.YtmedjedmeggbpaaDoor
open Go.RowKit
set_option maxRecDepth 100000
attribute [local go_sem] run_store_complex
attribute [local go_sem] Oper.semAt_some

theorem Tab.set {w : World} (h : Tab w) {q : Addr} (hq : q.block ≠ 0) (u : Value) : Tab (w.setCell q u) :=
  ⟨by have := h.1; simpa [World.setCell] using this, fun i hi => (World.cell?_of_block (Below.heap_setCell w q u 0 (Ne.symm hq))).trans (h.2 i hi)⟩

set_option maxHeartbeats 8000000 in
theorem powersOf_c (l : List Fr) (F : Option Addr) (c : Nat) (w : World) (hT : Tab w) (hr : Rd w F (l.map Fr.row).flatten) (hok : ∀ f ∈ l, f.ok w) (hl : l.length ≤ 1000) :
    Calls Tryd.prog 83 #[.slice F l.length c] w fun r w' =>
      ((framesE l ≠ 0 ∧ r = .returned (.tuple #[.agg #[.int .i64 0, .int .i64 0, .int .i64 0, .int .i64 0], .int .i64 (framesE l)])) ∨
        (framesE l = 0 ∧ r = .returned (.tuple #[.agg #[.int .i64 (powSum l 0), .int .i64 (powSum l 1), .int .i64 (powSum l 2), .int .i64 (powSum l 3)], .int .i64 0]))) ∧ Below w.heap.size w w' := by
  have HC := hide (checkedFrames_c l F c (w.alloc (.cells #[.int .i64 0, .int .i64 0, .int .i64 0, .int .i64 0] 127)) (hr.bel ((Below.refl _ _).alloc (Nat.le_refl _) _)) (fun f h => (hok f h).bel ((Below.refl _ _).alloc (Nat.le_refl _) _)) hl)
  by_cases he : framesE l = 0
  · have HCk : Hid (Calls Tryd.prog 129 #[.slice F l.length c] (w.alloc (.cells #[.int .i64 0, .int .i64 0, .int .i64 0, .int .i64 0] 127)) fun r w' => (∃ (g : Nat) (xs : List (Fr × Option Addr × Nat)), r = .returned (.tuple #[.slice (some ⟨g, 0, none⟩) l.length l.length, .int .i64 0]) ∧ xs.map Prod.fst = l ∧ Blk w' g 158 (xs.map Fr.row5).flatten ∧ ∀ x ∈ xs, Fr.ok5 w' x) ∧ Below (w.alloc (.cells #[.int .i64 0, .int .i64 0, .int .i64 0, .int .i64 0] 127)).heap.size (w.alloc (.cells #[.int .i64 0, .int .i64 0, .int .i64 0, .int .i64 0] 127)) w') :=
      HC.out.mono fun r w' hx => by
        obtain ⟨h, hb⟩ := hx
        refine ⟨?_, hb⟩
        rcases h with ⟨h, _⟩ | ⟨_, h⟩
        · exact absurd he h
        · exact h
    have HE := hide he
    have HOK := hide hok
    clear he HC hok
    refine calls_marks 5 Tryd.func83 rfl ?_
    simp only [Tryd.ntmps83, List.size_toArray, List.length_cons, List.length_nil, Nat.reduceAdd, Nat.reduceSub, Array.replicate_succ, Array.replicate_zero, List.push_toArray, List.append_toArray, List.nil_append, List.cons_append]
    go_upto_region 6 with (first | (go_at_call 129; refine HCk.out.mono ?_; rintro e w1 ⟨⟨g, xs, rfl, hxl, hG, hx5⟩, hb1⟩))
    generalize hW : w1.alloc (.cells #[.int .i64 0, .int .i64 0, .int .i64 0, .int .i64 0] 127) = W
    have hBW : Below w1.heap.size w1 W := by rw [← hW]; exact (Below.refl _ _).alloc (Nat.le_refl _) _
    have hQW : Blk W w1.heap.size 127 (pow4 fun _ => 0) := by rw [← hW]; exact Blk.new w1 _ [_, _, _, _]
    clear hW
    refine wp_loop (fun a' w' => ∃ (k : Nat) (Ds : List Nat) (u8 u10 u11 u24 u25 u26 u27 u28 u29 u30 u31 u32 u33 u34 u35 u36 u37 u38 u39 u40 u41 u42 u43 u44 u45 : Value), a' = { tmps := #[.slice F l.length c, undef, .pointer (some ⟨w.heap.size, 0, none⟩), .int .i64 0, .slice (some ⟨g, 0, none⟩) l.length l.length, .int .i64 0, .pointer (some ⟨w1.heap.size, 0, none⟩), undef, u8, undef, u10, u11,
        .tuple #[.slice (some ⟨g, 0, none⟩) l.length l.length, .int .i64 0], .slice F l.length c, .tuple #[.slice (some ⟨g, 0, none⟩) l.length l.length, .int .i64 0], .slice (some ⟨g, 0, none⟩) l.length l.length, .int .i64 0, .int .i64 0,
        .bool false, undef, undef, .slice (some ⟨g, 0, none⟩) l.length l.length, .int .i64 l.length, .int .i64 k, u24, u25, u26, u27, u28, u29, u30, u31, u32, u33, u34, u35, u36, u37, u38, u39, u40, u41, u42, u43, u44, u45, undef], defers := marked Ds } ∧ k ≤ l.length ∧ Marks (w1.heap.size + 1) Ds w' ∧ Below w1.heap.size w1 w' ∧ Blk w' w1.heap.size 127 (pow4 (powSum (l.take k))))
      (fun a' _ => l.length - (intOf (a'.tmps.getD 23 undef)).toNat) ?_ ?_
    · exact ⟨0, [], _, _, _, _, _, _, _, _, _, _, _, _, _, _, _, _, _, _, _, _, _, _, _, _, _, rfl, Nat.zero_le _, ⟨List.nodup_nil, fun D h => absurd h (by simp)⟩, hBW, hQW⟩
    · rintro a' wr ⟨k, Ds, u8, u10, u11, u24, u25, u26, u27, u28, u29, u30, u31, u32, u33, u34, u35, u36, u37, u38, u39, u40, u41, u42, u43, u44, u45, rfl, hk, hMk, hbr, hQr⟩
      by_cases hlt : k < l.length
      · have hxn : xs.length = l.length := by rw [← hxl]; simp
        have hkx : k < xs.length := by omega
        have hgl : g < w1.heap.size := hG.lt
        have hGr := hG.bel hbr
        have hrows : ∀ r ∈ xs.map Fr.row5, r.length = 5 := fun r h => by obtain ⟨x, _, rfl⟩ := List.mem_map.1 h; rfl
        have hki : k < (xs.map Fr.row5).length := by simpa using hkx
        have y : ∀ j, j < 5 → wr.cell? ⟨g, k * 5 + j, none⟩ = (Fr.row5 xs[k])[j]? := fun j hj => by rw [hGr.cell, flat_at hrows k hki j hj, List.getElem_map]
        have hx := hx5 _ (List.getElem_mem hkx)
        have hlk : l[k] = (xs[k]).1 := by simp only [← hxl, List.getElem_map]
        have hfo := HOK.out _ (List.getElem_mem hlt)
        have HTK : Hid (l.take (k + 1) = l.take k ++ [(xs[k]).1]) := by rw [← hlk]; exact List.take_succ_eq_append_getElem hlt
        rw [hlk] at hfo
        generalize xs[k] = x at y hx hfo HTK
        obtain ⟨⟨gain, limit, A, cA, samples, G, cG, gaps⟩, U, cU⟩ := x
        obtain ⟨hv0, hU⟩ := hx
        obtain ⟨o1, o2, o3, o4⟩ := hfo
        dsimp only [Fr.err] at hv0 hU o1 o2 o3 o4
        have y0 := y 0 (by omega)
        have y1 := y 1 (by omega)
        have y2 := y 2 (by omega)
        have y3 := y 3 (by omega)
        have y4 := y 4 (by omega)
        simp only [Fr.row5, List.getElem?_cons_zero, List.getElem?_cons_succ, Nat.add_zero] at y0 y1 y2 y3 y4
        obtain ⟨hh, hsamp, _⟩ := frameE_zero hv0
        obtain ⟨_, _, l1, l2, n1, n2⟩ := headE_zero hh
        have HSM : Hid (∀ q ∈ samples, gle 2000000 q) := fun q hq => by
          have := hsamp q hq
          simp only [gle]; omega
        have HXL := hide hxl
        have HX5 := hide hx5
        have HU := hide hU
        have HO1 := hide o1
        clear hsamp hh y hrows hki hGr hlk hx5 hxl hU o1 o2 hv0
        have hgr : g < wr.heap.size := Nat.lt_of_lt_of_le hgl hbr.size
        have ix0 : (0 : Int) ≤ (k : Int) := by omega
        have ix1 : (k : Int) < (l.length : Int) := by omega
        go_wp2_with (first | (go_at_call 130; refine (blocks_c gain limit A G U samples.length cA gaps.length cG samples.length cU _).mono ?_; rintro e W2 ⟨rfl, hBn, hb2⟩))
        have hsz2 : wr.heap.size + 2 ≤ W2.heap.size := by have := hBn.lt; simp at this; omega
        have hb12 : Below wr.heap.size wr W2 := tr ((Below.refl wr.heap.size wr).alloc (Nat.le_refl _) _) hb2 (by simp)
        have hBn2 : Blk W2 (wr.heap.size + 1) 158 [.int .i64 gain, .int .i64 limit, .slice A samples.length cA, .slice G gaps.length cG, .slice U samples.length cU] := by simpa using hBn
        clear hBn hb2 y0 y1 y2 y3 y4
        have hqr := hQr.lt
        have hQ2 := hQr.bel hb12
        have hU2 : Rd W2 U (bls (usableL limit samples gaps)) := (HU.out.1.bel hbr).bel hb12
        have hbw1 : Below w.heap.size w w1 := tr ((Below.refl _ _).alloc (Nat.le_refl _) _) hb1 (by simp)
        have hA2 : Rd W2 A (gs samples) := ((HO1.out.bel hbw1).bel hbr).bel hb12
        obtain ⟨S, hS⟩ : ∃ S : Nat → Prop, ∀ j, S j ↔ j < W2.heap.size ∧ j ≠ w1.heap.size := ⟨fun j => j < W2.heap.size ∧ j ≠ w1.heap.size, fun _ => Iff.rfl⟩
        have hSA : ∀ b off, A = some ⟨b, off, none⟩ → S b := fun b off e => by
          obtain ⟨b', off', e', hlt', _⟩ := HO1.out (by intro e2; have := congrArg List.length e2; rw [gs_length] at this; simp at this; omega)
          rw [e] at e'
          injection e' with e'
          injection e' with e' _
          subst e'
          exact (hS _).2 ⟨by have := hbw1.size; have := hbr.size; omega, by have := hbw1.size; omega⟩
        have hSU : ∀ b off, U = some ⟨b, off, none⟩ → S b := fun b off e => by
          obtain ⟨b', off', e', hlt', _⟩ := HU.out.1 (by intro e2; have := congrArg List.length e2; rw [bls_length, show (usableL limit samples gaps).length = samples.length from by simp [usableL], List.length_nil] at this; omega)
          rw [e] at e'
          injection e' with e'
          injection e' with e' _
          subst e'
          exact (hS _).2 ⟨by have := hbr.size; omega, by omega⟩
        refine wpIn_wide.1 (range_law2 (n := 5) (α := Nat) rfl Tryd.call148 (blocks_iter 4 (wr.heap.size + 1) (by omega) gain limit A G U cA cG cU gaps.length samples (usableL limit samples gaps) S ((hS _).2 ⟨by omega, by omega⟩) hSA hSU W2 hBn2 hA2 hU2 (by simp [usableL]) (by omega) HSM.out)
          (fun j hj => ((hS j).1 hj).1) (fun x args W h => by obtain ⟨_, _, _, _, rfl, _⟩ := h; rfl)
          (fun pre W => Blk W w1.heap.size 127 (pow4 fun n => powSum (l.take k) n + pwSum samples pre n) ∧ Keep S W2 W)
          (fun pre W W' ⟨h1, h2⟩ hb => ⟨h1.bel hb, h2.trans (Keep.of_below hb fun j hj => by have h3 := h2.size; have := ((hS j).1 hj).1; omega)⟩)
          (fun pre W l' o o' ⟨h1, h2⟩ hB hl' ho => ⟨(World.putObj_heap_other (by omega)).trans h1, h2.trans (Keep.putObj _ _ _ fun hj => by have := ((hS l').1 hj).1; omega)⟩)
          ⟨by simpa [pwSum] using hQ2, Keep.refl _ _⟩
          (fun j a₁ W => ∃ (bb : Nat) (v0 v1 v2 v3 : Value), a₁ = { tmps := #[.slice F l.length c, undef, .pointer (some ⟨w.heap.size, 0, none⟩), .int .i64 0, .slice (some ⟨g, 0, none⟩) l.length l.length, .int .i64 0, .pointer (some ⟨w1.heap.size, 0, none⟩), undef, .pointer (some ⟨wr.heap.size, 0, none⟩), undef, .pointer (some ⟨bb, 0, none⟩), u11,
            .tuple #[.slice (some ⟨g, 0, none⟩) l.length l.length, .int .i64 0], .slice F l.length c, .tuple #[.slice (some ⟨g, 0, none⟩) l.length l.length, .int .i64 0], .slice (some ⟨g, 0, none⟩) l.length l.length, .int .i64 0, .int .i64 0,
            .bool false, undef, undef, .slice (some ⟨g, 0, none⟩) l.length l.length, .int .i64 l.length, .int .i64 k, .bool true, .pointer (some ⟨g, k * 5, none⟩), (.agg #[.int .i64 gain, .int .i64 limit, .slice A samples.length cA, .slice G gaps.length cG, .slice U samples.length cU]), (.agg #[.int .i64 gain, .int .i64 limit, .slice A samples.length cA, .slice G gaps.length cG, .slice U samples.length cU]), .func (.func 148) #[] #[.pointer (some ⟨wr.heap.size + 1, 0, none⟩)], .int .i64 (4 * (j : Int)), .agg #[v0, v1, v2, v3], u31, u32, u33, u34, u35, u36, u37, u38, u39, u40, u41, u42, u43, u44, u45, undef], defers := [] } ∧ W2.heap.size ≤ bb ∧ Blk W bb 180 [v0, v1, v2, v3] ∧ CI v0 (samples.getD (4 * j) (0, 0)) ∧ CI v1 (samples.getD (4 * j + 1) (0, 0)) ∧ CI v2 (samples.getD (4 * j + 2) (0, 0)) ∧ CI v3 (samples.getD (4 * j + 3) (0, 0)))
          ?hZ ?assign ?body ?done)
        case hZ =>
          rintro j a W l' o o' ⟨bb, v0, v1, v2, v3, h1, h2, h3, h4⟩ hl' ho hc
          exact ⟨bb, v0, v1, v2, v3, h1, h2, (World.putObj_heap_other (fun e => by subst e; rw [show W.heap[bb]? = _ from h3] at ho; cases ho; cases hc)).trans h3, h4⟩
        case assign =>
          rintro l' j args W K ⟨v0, v1, v2, v3, rfl, q0, q1, q2, q3⟩ hge hK
          obtain ⟨x0, y0, rfl, fx0, fy0⟩ := q0
          obtain ⟨x1, y1, rfl, fx1, fy1⟩ := q1
          obtain ⟨x2, y2, rfl, fx2, fy2⟩ := q2
          obtain ⟨x3, y3, rfl, fx3, fy3⟩ := q3
          gi_wp2
          exact hK _ _ ((Below.refl _ _).alloc (Nat.le_refl _) _) ⟨W.heap.size, .complex .f64 x0 y0, .complex .f64 x1 y1, .complex .f64 x2 y2, .complex .f64 x3 y3, rfl, hge, Blk.new W _ [_, _, _, _], ⟨x0, y0, rfl, fx0, fy0⟩, ⟨x1, y1, rfl, fx1, fy1⟩, ⟨x2, y2, rfl, fx2, fy2⟩, ⟨x3, y3, rfl, fx3, fy3⟩⟩
        case body =>
          rintro l' pre j rest a₁ W' hxs ⟨hQW, hkp⟩ ⟨bb, v0, v1, v2, v3, rfl, hbb, hB4, q0, q1, q2, q3⟩ hge
          have hbd : pre.length ≤ 16 := by
            have h1 := congrArg List.length hxs
            have h2 := blockNs_length (usableL limit samples gaps) (samples.length / 4)
            simp at h1
            omega
          obtain ⟨t, ht⟩ : ∃ t : Nat → Int, (fun n => powSum (l.take k) n + pwSum samples pre n) = t := ⟨_, rfl⟩
          have HTB : Hid (∀ n, 0 ≤ t n ∧ t n ≤ 4000000000000000000) := fun n => by
            have h1 := powSum_bd n (l := l.take k) (fun f hf => by
              have hf' : f ∈ xs.map Prod.fst := by rw [HXL.out]; exact List.mem_of_mem_take hf
              obtain ⟨y, hy, rfl⟩ := List.mem_map.1 hf'
              exact (HX5.out y hy).1)
            have h2 := pwSum_bd HSM.out n pre
            have h3 : (l.take k).length ≤ 1000 := by simp; omega
            rw [← ht]
            show 0 ≤ powSum (l.take k) n + pwSum samples pre n ∧ powSum (l.take k) n + pwSum samples pre n ≤ 4000000000000000000
            omega
          have HPS : Hid (pow4 (fun n => powSum (l.take k) n + pwSum samples (pre ++ [j]) n) = pow4 (tm t samples j 4)) := by
            show _ = _
            simp only [pow4, tm, ← ht, pwSum_snoc, Int.add_assoc]
            rfl
          rw [ht] at hQW
          clear ht
          have hTW : Tab W' := by
            have h1 : Tab w1 := hT.bel hbw1
            exact ⟨by have := h1.1; have := hbr.size; omega, fun i hi => (hkp.cell (p := ⟨0, i, none⟩) ((hS 0).2 ⟨by have := h1.1; have := hbr.size; omega, by have := h1.1; have := hT.1; have := hbw1.size; omega⟩)).trans (((h1.bel hbr).bel hb12).2 i hi)⟩
          have hz0 := hB4.cell 0
          gi_wp2
          gi_loopw [31] (fun i wx => ∃ m : Nat, m ≤ 4 ∧ i = .int .i64 m ∧ KeepsOthers W' wx ∧ Keep S W' wx ∧ Blk wx w1.heap.size 127 (pow4 (tm t samples j m)) ∧ Blk wx bb 180 [v0, v1, v2, v3] ∧ Tab wx) (fun i _ => 4 - (intOf i).toNat)
          case atStart => exact ⟨0, Nat.zero_le _, rfl, ⟨Nat.le_refl _, fun _ _ h _ => h⟩, Keep.refl _ _, hQW, hB4, hTW⟩
          case round =>
            obtain ⟨m, hm, rfl, hko, hkx', hQx, hBx, hTx⟩ := hrel
            by_cases hlt4 : m < 4
            · have y0 := (hQx.cell m).trans (pow4_at _ m hlt4)
              have c0 := hBx.cell 0
              have c1 := hBx.cell 1
              have c2 := hBx.cell 2
              have c3 := hBx.cell 3
              simp only [List.getElem?_cons_zero, List.getElem?_cons_succ] at c0 c1 c2 c3
              have e4 : tm t samples j m m = t m := by simp [tm]
              rw [e4] at y0
              have hTm := HTB.out m
              have hpw := pw_bd HSM.out j m
              have hhb := harmB_bd HSM.out j m
              have ix0' : (0 : Int) ≤ (m : Int) := by omega
              have ix1' : (m : Int) < 4 := by omega
              have b0 : gle 2000000 (samples.getD (4 * j) (0, 0)) := gle_getD (by omega) HSM.out _
              have b1 : gle 2000000 (samples.getD (4 * j + 1) (0, 0)) := gle_getD (by omega) HSM.out _
              have b2 : gle 2000000 (samples.getD (4 * j + 2) (0, 0)) := gle_getD (by omega) HSM.out _
              have b3 : gle 2000000 (samples.getD (4 * j + 3) (0, 0)) := gle_getD (by omega) HSM.out _
              have HH : Hid (Calls Tryd.prog 133 #[.agg #[v0, v1, v2, v3], .int .i64 m] wr.drew fun r w' => (∃ v, r = .returned v ∧ CI v (harmB samples j m)) ∧ Below wr.drew.heap.size wr.drew w') :=
                harmonic_c v0 v1 v2 v3 _ _ _ _ m 2000000 wr.drew (hTx.bel (Below.refl _ _).drew) q0 q1 q2 q3 b0 b1 b2 b3 (by omega) (by omega) (by omega) (by omega)
              clear b0 b1 b2 b3
              have HPW : Hid (pw samples j m = (harmB samples j m).1 * (harmB samples j m).1 + (harmB samples j m).2 * (harmB samples j m).2) := rfl
              have HPS4 := hide (pow4_set t samples j m hlt4)
              obtain ⟨⟨ha, hb⟩, hab⟩ : ∃ h, harmB samples j m = h := ⟨_, rfl⟩
              rw [hab] at HH HPW hhb
              have HPWo : pw samples j m = ha * ha + hb * hb := HPW.out
              obtain ⟨r1, r2, r3, r4⟩ := hhb
              have s1 := sq_bd r1 r2
              have s2 := sq_bd r3 r4
              dsimp only at r1 r2 r3 r4 s1 s2
              have hqx := hQx.lt
              have HQX := hide hQx
              have HBX := hide hBx
              have yf := hQx.frozen m
              have hwl : IntKind.i64.wrap (t m + (ha * ha + hb * hb)) = t m + (ha * ha + hb * hb) := by simp (disch := omega) only [IntWalk.i64_in]
              clear hab hQx hBx HPW
              have hfol : Tryd.prog.follows .mixedOrders = true := by kernel_rfl
              clear HPS HTB HSM HXL HX5 HU HO1 HTK HOK HCk HE hMk hQW hB4 hTW hxs hz0 hSA hSU hA2 hU2 hQ2 hQr hBn2 hk hlt hkx hxn ix0 ix1 hbd
              gi_wp2
              gi_region_with_o (first
                | (refine ⟨trivial, ?_⟩; gi_at_call 133; refine (CallsIn.mono (CallsIn.inRound l' (callsIn_wide.2 HH.out)) ?_); rintro e w3 ⟨⟨vh, rfl, hvh⟩, hb3⟩; have y3 := (hb3.cell (p := ⟨w1.heap.size, m, none⟩) hqx).trans y0)
                | (refine ⟨trivial, ?_⟩; gi_at_call 132; refine (CallsIn.mono (CallsIn.inRound l' (callsIn_wide.2 (gauss_c vh ha hb hvh w3 (by omega) (by omega)))) ?_); rintro e w4 ⟨rfl, hb4⟩; have y4 := (hb4.cell (p := ⟨w1.heap.size, m, none⟩) (by have := hb3.size; show w1.heap.size < w3.heap.size; exact Nat.lt_of_lt_of_le hqx this)).trans y3)
                | (refine ⟨trivial, ?_⟩; gi_at_call 131; refine (CallsIn.mono (CallsIn.inRound l' (callsIn_wide.2 (squareOf_c ha hb w4 s1.1 s2.1 (by omega)))) ?_); rintro e w5 ⟨rfl, hb5⟩; have hqw4 : w1.heap.size < w4.heap.size := World.block_lt_of_cell? _ _ y4; have y5 := (hb5.cell (p := ⟨w1.heap.size, m, none⟩) hqw4).trans y4; have hQ5 := ((Blk.bel (w := wr.drew) HQX.out hb3).bel hb4).bel hb5; have yf5 := hQ5.frozen m))
              all_goals
                have hB5 : Below wr.heap.size wr w5 := (((Below.refl wr.heap.size wr).drew.trans hb3).trans (hb4.mono hb3.size)).trans (hb5.mono (Nat.le_trans hb3.size hb4.size))
                have hT5 := hTx.bel hB5
                have hB5b := HBX.out.bel hB5
                have hbq : bb ≠ w1.heap.size := by omega
                have hq0 : w1.heap.size ≠ 0 := by have := hT.1; have := hbw1.size; omega
                have hsq := hQ5.set_ m (.int .i64 (t m + (ha * ha + hb * hb)))
                rw [← HPWo, HPS4.out] at hsq
                have hsz5 : W2.heap.size ≤ wr.heap.size := Nat.le_trans hkp.size hkx'.size
                gi_wp2
                go_roundw
                case rel =>
                  rw [← HPWo]
                  exact ⟨m + 1, by omega, by go_num, (hko.trans (others_of_below hB5)).trans (KeepsOthers.setCell _ _ _),
                    (hkx'.trans (Keep.of_below hB5 fun i hi => by have := ((hS i).1 hi).1; omega)).trans (Keep.setCell _ _ _ fun hi => ((hS _).1 hi).2 rfl), hsq, hB5b.far hbq _, hT5.set hq0 _⟩
                case measure => simp [intOf]; omega
            · obtain rfl : m = 4 := by omega
              gi_wp2
              exact ⟨hko, hkx', by rw [HPS.out]; exact hQx, hkp.trans hkx'⟩
        case done =>
          rintro D W' hD ⟨hQW, hkp⟩ hK
          have hD' : D < W'.heap.size := (Array.getElem?_eq_some_iff.1 hK).1
          have hMk' : Marks (w1.heap.size + 1) (D :: Ds) W' := by
            refine ⟨List.nodup_cons.2 ⟨fun h => ?_, hMk.1⟩, fun E hE => ?_⟩
            · have h2 := (Array.getElem?_eq_some_iff.1 (hMk.2 D h).2).1
              omega
            · rcases List.mem_cons.1 hE with rfl | hE
              · exact ⟨by omega, hK⟩
              · have h1 := hMk.2 E hE
                have h2 := (Array.getElem?_eq_some_iff.1 h1.2).1
                exact ⟨h1.1, (hkp.block E ((hS E).2 ⟨by omega, by omega⟩)).trans ((hb12.block E h2).trans h1.2)⟩
          have hbW' : Below w1.heap.size w1 W' := (hbr.trans (hb12.mono (by omega))).trans ⟨hkp.os, hkp.tape, hkp.output, hkp.size, fun j hj => hkp.block j ((hS j).2 ⟨by omega, by omega⟩)⟩
          have hQn : Blk W' w1.heap.size 127 (pow4 (powSum (l.take (k + 1)))) := by
            have e : powSum (l.take (k + 1)) = fun n => powSum (l.take k) n + pwSum samples (blockNs (usableL limit samples gaps) (samples.length / 4)) n := by
              funext n
              rw [HTK.out]
              simp [powSum, Fr.pows]
            rw [e]; exact hQW
          have hmk : ({ target := .collected D, args := #[] } :: marked Ds : List Deferred) = marked (D :: Ds) := rfl
          dsimp only
          rw [hmk]
          go_wp2
          refine ⟨⟨k + 1, D :: Ds, _, _, _, _, _, _, _, _, _, _, _, _, _, _, _, _, _, _, _, _, _, _, _, _, _, rfl, by omega, hMk', hbW', hQn⟩, ?_⟩
          show l.length - ((k : Int) + 1).toNat < l.length - ((k : Int)).toNat
          omega
      · obtain rfl : k = l.length := by omega
        rw [List.take_of_length_le (Nat.le_refl _)] at hQr
        have hbw1 : Below w.heap.size w w1 := tr ((Below.refl _ _).alloc (Nat.le_refl _) _) hb1 (by simp)
        have hbw : Below w.heap.size w wr := tr hbw1 hbr hbw1.size
        have hP0 : Blk (w.alloc (.cells #[.int .i64 0, .int .i64 0, .int .i64 0, .int .i64 0] 127)) w.heap.size 127 [.int .i64 0, .int .i64 0, .int .i64 0, .int .i64 0] := Blk.new w _ [_, _, _, _]
        have hP1 := (hP0.bel hb1).bel hbr
        have hpq : w.heap.size < w1.heap.size := (hP0.bel hb1).lt
        have hqr := hQr.lt
        have d0 := hP1.cell 0
        have d1 := hP1.cell 1
        have d2 := hP1.cell 2
        have d3 := hP1.cell 3
        have y0 := hQr.cell 0
        have y1 := hQr.cell 1
        have y2 := hQr.cell 2
        have y3 := hQr.cell 3
        simp only [pow4, List.getElem?_cons_zero, List.getElem?_cons_succ] at d0 d1 d2 d3 y0 y1 y2 y3
        have k0 := hP1.frozen 0
        have k1 := hP1.frozen 1
        have k2 := hP1.frozen 2
        have k3 := hP1.frozen 3
        have HP := hide hP1
        clear hP1 hP0 hQr
        go_wp2
        obtain ⟨WE, hWE⟩ : ∃ WE, (((wr.setCell ⟨w.heap.size, 0, none⟩ (.int .i64 (powSum l 0))).setCell ⟨w.heap.size, 1, none⟩ (.int .i64 (powSum l 1))).setCell ⟨w.heap.size, 2, none⟩ (.int .i64 (powSum l 2))).setCell ⟨w.heap.size, 3, none⟩ (.int .i64 (powSum l 3)) = WE := ⟨_, rfl⟩
        rw [hWE]
        have hE : Blk WE w.heap.size 127 (pow4 (powSum l)) := by rw [← hWE]; exact (((HP.out.set_ 0 _).set_ 1 _).set_ 2 _).set_ 3 _
        have hBE : Below w.heap.size w WE := by
          rw [← hWE]; exact (((hbw.setCell (Nat.le_refl _) _).setCell (Nat.le_refl _) _).setCell (Nat.le_refl _) _).setCell (Nat.le_refl _) _
        have hME : Marks (w1.heap.size + 1) Ds WE := ⟨hMk.1, fun D hD => ⟨(hMk.2 D hD).1, by
          have h := hMk.2 D hD
          rw [← hWE]
          have hne : ∀ i, D ≠ (⟨w.heap.size, i, none⟩ : Addr).block := fun i => by show D ≠ w.heap.size; omega
          rw [Below.heap_setCell _ _ _ _ (hne 3), Below.heap_setCell _ _ _ _ (hne 2), Below.heap_setCell _ _ _ _ (hne 1), Below.heap_setCell _ _ _ _ (hne 0)]
          exact h.2⟩⟩
        clear hWE
        refine leaves_marks (B := w1.heap.size + 1) (J := fun W => Below w.heap.size w W ∧ Blk W w.heap.size 127 (pow4 (powSum l))) ?_ ?_ Ds WE hME ⟨hBE, hE⟩
        · rintro W D o o' ⟨h1, h2⟩ hD ho hc
          refine ⟨⟨h1.os, h1.tape, h1.output, by simpa using h1.size, fun k hk => (World.putObj_heap_other (by omega)).trans (h1.block k hk)⟩, (World.putObj_heap_other (by omega)).trans h2⟩
        · rintro W ⟨h1, h2⟩
          have g0 := h2.cell 0
          have g1 := h2.cell 1
          have g2 := h2.cell 2
          have g3 := h2.cell 3
          simp only [pow4, List.getElem?_cons_zero, List.getElem?_cons_succ] at g0 g1 g2 g3
          refine ⟨.tuple #[.agg #[.int .i64 (powSum l 0), .int .i64 (powSum l 1), .int .i64 (powSum l 2), .int .i64 (powSum l 3)], .int .i64 0], by simp [results, Tryd.results83, go_sem, g0, g1, g2, g3]; try rfl, .inr ⟨HE.out, rfl⟩, h1⟩
  · have HCe : Hid (Calls Tryd.prog 129 #[.slice F l.length c] (w.alloc (.cells #[.int .i64 0, .int .i64 0, .int .i64 0, .int .i64 0] 127)) fun r w' => r = .returned (.tuple #[.slice none 0 0, .int .i64 (framesE l)]) ∧ Below (w.alloc (.cells #[.int .i64 0, .int .i64 0, .int .i64 0, .int .i64 0] 127)).heap.size (w.alloc (.cells #[.int .i64 0, .int .i64 0, .int .i64 0, .int .i64 0] 127)) w') :=
      HC.out.mono fun r w' hx => by
        obtain ⟨h, hb⟩ := hx
        refine ⟨?_, hb⟩
        rcases h with ⟨_, h⟩ | ⟨h, _⟩
        · exact h
        · exact absurd h he
    have e1 : (framesE l != 0) = true := by simpa using he
    have HE := hide he
    clear he HC
    refine calls_marks 5 Tryd.func83 rfl ?_
    simp only [Tryd.ntmps83, List.size_toArray, List.length_cons, List.length_nil, Nat.reduceAdd, Nat.reduceSub, Array.replicate_succ, Array.replicate_zero, List.push_toArray, List.append_toArray, List.nil_append, List.cons_append]
    go_upto_region 3 with (first | (go_at_call 129; refine HCe.out.mono ?_; rintro e w1 ⟨rfl, hb1⟩))
    have hP0 : Blk (w.alloc (.cells #[.int .i64 0, .int .i64 0, .int .i64 0, .int .i64 0] 127)) w.heap.size 127 [.int .i64 0, .int .i64 0, .int .i64 0, .int .i64 0] := Blk.new w _ [_, _, _, _]
    have hP1 := hP0.bel hb1
    have hbw : Below w.heap.size w w1 := tr ((Below.refl _ _).alloc (Nat.le_refl _) _) hb1 (by simp)
    have d0 := hP1.cell 0
    have d1 := hP1.cell 1
    have d2 := hP1.cell 2
    have d3 := hP1.cell 3
    simp only [List.getElem?_cons_zero, List.getElem?_cons_succ] at d0 d1 d2 d3
    have k0 := hP1.frozen 0
    have k1 := hP1.frozen 1
    have k2 := hP1.frozen 2
    have k3 := hP1.frozen 3
    have HP := hide hP1
    clear hP1 hP0
    go_wp2
    obtain ⟨WE, hWE⟩ : ∃ WE, (((w1.setCell ⟨w.heap.size, 0, none⟩ (.int .i64 0)).setCell ⟨w.heap.size, 1, none⟩ (.int .i64 0)).setCell ⟨w.heap.size, 2, none⟩ (.int .i64 0)).setCell ⟨w.heap.size, 3, none⟩ (.int .i64 0) = WE := ⟨_, rfl⟩
    rw [hWE]
    have hE : Blk WE w.heap.size 127 [.int .i64 0, .int .i64 0, .int .i64 0, .int .i64 0] := by rw [← hWE]; exact (((HP.out.set_ 0 _).set_ 1 _).set_ 2 _).set_ 3 _
    have hBE : Below w.heap.size w WE := by
      rw [← hWE]; exact (((hbw.setCell (Nat.le_refl _) _).setCell (Nat.le_refl _) _).setCell (Nat.le_refl _) _).setCell (Nat.le_refl _) _
    clear hWE
    have g0 := hE.cell 0
    have g1 := hE.cell 1
    have g2 := hE.cell 2
    have g3 := hE.cell 3
    simp only [List.getElem?_cons_zero, List.getElem?_cons_succ] at g0 g1 g2 g3
    exact ⟨.tuple #[.agg #[.int .i64 0, .int .i64 0, .int .i64 0, .int .i64 0], .int .i64 (framesE l)], by simp [results, Tryd.results83, go_sem, g0, g1, g2, g3]; try rfl, .inl ⟨HE.out, rfl⟩, hBE⟩
end Go.Proofs.YtmedjedmeggbpaaDoor
