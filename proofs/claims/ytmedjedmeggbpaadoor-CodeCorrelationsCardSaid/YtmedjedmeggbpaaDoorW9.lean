/- Contracts: frames that were checked. -/
import Derived.Test.YtmedjedmeggbpaaDoorW8
import Derived.Test.YtmedjedmeggbpaaDoorW7
import Derived.Deep.DeepCutAuto
namespace Go.Proofs.YtmedjedmeggbpaaDoor
open Go.RowKit
set_option maxRecDepth 100000

/-- The cells of bools. -/
def bls (l : List Bool) : List Value := l.map .bool
theorem Tryd.info4 : (Tryd.prog.info? 4).map (fun i => (i.zero, i.size, i.bytes)) = some (some (.bool false), 1, 1) := by kernel_rfl

/-- Which samples are usable. -/
def usableL (limit : Int) (samples : List (Int × Int)) (gaps : List Int) : List Bool := (List.range samples.length).map (usableB limit samples gaps)

section
variable {w wx w1 : World} {n : Nat} {p0 p1 p2 p3 : Addr} {v0 v1 v2 v3 : Value}
theorem hold4_bel (h : wx.cell? p0 = some v0 ∧ wx.cell? p1 = some v1 ∧ wx.cell? p2 = some v2 ∧ wx.cell? p3 = some v3 ∧ Below n w wx) (hb : Below wx.heap.size wx w1) (hB : n ≤ wx.heap.size) :
    w1.cell? p0 = some v0 ∧ w1.cell? p1 = some v1 ∧ w1.cell? p2 = some v2 ∧ w1.cell? p3 = some v3 ∧ Below n w w1 := by
  obtain ⟨h0, h1, h2, h3, h4⟩ := h
  exact ⟨(hb.cell (World.block_lt_of_cell? _ _ h0)).trans h0, (hb.cell (World.block_lt_of_cell? _ _ h1)).trans h1, (hb.cell (World.block_lt_of_cell? _ _ h2)).trans h2, (hb.cell (World.block_lt_of_cell? _ _ h3)).trans h3, h4.trans (hb.mono hB)⟩
theorem hold4_drew (h : wx.cell? p0 = some v0 ∧ wx.cell? p1 = some v1 ∧ wx.cell? p2 = some v2 ∧ wx.cell? p3 = some v3 ∧ Below n w wx) :
    wx.drew.cell? p0 = some v0 ∧ wx.drew.cell? p1 = some v1 ∧ wx.drew.cell? p2 = some v2 ∧ wx.drew.cell? p3 = some v3 ∧ Below n w wx.drew :=
  ⟨h.1, h.2.1, h.2.2.1, h.2.2.2.1, h.2.2.2.2.drew⟩
theorem hold4_set {q : Addr} {u : Value} (h : wx.cell? p0 = some v0 ∧ wx.cell? p1 = some v1 ∧ wx.cell? p2 = some v2 ∧ wx.cell? p3 = some v3 ∧ Below n w wx) (h0 : p0.block ≠ q.block) (h1 : p1.block ≠ q.block) (h2 : p2.block ≠ q.block) (h3 : p3.block ≠ q.block) (hq : n ≤ q.block) :
    (wx.setCell q u).cell? p0 = some v0 ∧ (wx.setCell q u).cell? p1 = some v1 ∧ (wx.setCell q u).cell? p2 = some v2 ∧ (wx.setCell q u).cell? p3 = some v3 ∧ Below n w (wx.setCell q u) :=
  ⟨(World.cell?_of_block (Below.heap_setCell wx q u _ h0)).trans h.1, (World.cell?_of_block (Below.heap_setCell wx q u _ h1)).trans h.2.1, (World.cell?_of_block (Below.heap_setCell wx q u _ h2)).trans h.2.2.1, (World.cell?_of_block (Below.heap_setCell wx q u _ h3)).trans h.2.2.2.1, h.2.2.2.2.setCell hq u⟩
end

theorem bls_length (l : List Bool) : (bls l).length = l.length := by simp [bls]
theorem bls_replicate (n : Nat) : bls (List.replicate n false) = List.replicate n (.bool false) := by simp [bls]
theorem bls_set (l : List Bool) (k : Nat) (b : Bool) : (bls l).set k (.bool b) = bls (l.set k b) := by simp [bls, List.map_set]
/-- The usable samples after the first k gaps. -/
def useK (limit : Int) (samples : List (Int × Int)) (gaps : List Int) (k : Nat) : List Bool := usableL limit samples (gaps.take k)
theorem useK_zero (limit : Int) (samples : List (Int × Int)) (gaps : List Int) : useK limit samples gaps 0 = (List.range samples.length).map fun i => !beyB (samples.getD i (0, 0)) (limit - 1) := by
  simp [useK, usableL, usableB]
theorem useK_all (limit : Int) (samples : List (Int × Int)) (gaps : List Int) : useK limit samples gaps gaps.length = usableL limit samples gaps := by
  simp [useK]
theorem useK_length (limit : Int) (samples : List (Int × Int)) (gaps : List Int) (k : Nat) : (useK limit samples gaps k).length = samples.length := by simp [useK, usableL]
theorem useK_set (limit : Int) (samples : List (Int × Int)) (gaps : List Int) (k : Nat) (hk : k < gaps.length) (g : Nat) (hg : gaps[k] = (g : Int)) :
    (useK limit samples gaps k).set g false = useK limit samples gaps (k + 1) := by
  unfold useK usableL
  refine List.ext_getElem (by simp) fun i h1 h2 => ?_
  have ht : gaps.take (k + 1) = gaps.take k ++ [(g : Int)] := by rw [List.take_succ_eq_append_getElem hk, hg]
  rw [List.getElem_set]
  by_cases hi : g = i
  · subst hi
    simp [usableB, ht]
  · have hi' : ¬ ((i : Int) = (g : Int)) := by omega
    simp [usableB, ht, hi, hi']

theorem checked_c (gain limit : Int) (A G : Option Addr) (cA c : Nat) (samples : List (Int × Int)) (gaps : List Int) (w : World) (hs : Rd w A (gs samples)) (hr : Rd w G (ints gaps)) (hn : samples.length ≤ 1000) (hg : gaps.length ≤ 1000) :
    Calls Tryd.prog 114 #[.agg #[.int .i64 gain, .int .i64 limit, .slice A samples.length cA, .slice G gaps.length c]] w fun r w' =>
      (((frameE gain limit samples gaps).2 ≠ 0 ∧ r = .returned (.tuple #[.agg #[.int .i64 0, .int .i64 0, .slice none 0 0, .slice none 0 0, .slice none 0 0], .int .i64 (frameE gain limit samples gaps).2])) ∨
        ((frameE gain limit samples gaps).2 = 0 ∧ ∃ U cU, r = .returned (.tuple #[.agg #[.int .i64 gain, .int .i64 limit, .slice A samples.length cA, .slice G gaps.length c, .slice U samples.length cU], .int .i64 0]) ∧ RdT w' 4 U (bls (usableL limit samples gaps)))) ∧ Below w.heap.size w w' := by
  obtain ⟨i0, hi, iz0, iz1, iz2⟩ := info_parts Tryd.info4
  go_enter Tryd.func114, Tryd.ntmps114
  go_wp2_with fail
  obtain ⟨W0, hW0⟩ : ∃ W0, (w.alloc (.cells #[.int .i64 gain, .int .i64 limit, .slice A samples.length cA, .slice G gaps.length c] 81)).alloc (.cells #[.int .i64 0, .int .i64 0, .slice none 0 0, .slice none 0 0, .slice none 0 0] 158) = W0 := ⟨_, rfl⟩
  have hsz0 : W0.heap.size = w.heap.size + 2 := by rw [← hW0]; simp
  have hb0 : Below w.heap.size w W0 := by rw [← hW0]; exact ((Below.refl _ _).alloc (Nat.le_refl _) _).alloc (by simp) _
  have hB0 : Blk W0 w.heap.size 81 [.int .i64 gain, .int .i64 limit, .slice A samples.length cA, .slice G gaps.length c] := by rw [← hW0]; exact (Blk.new w _ [_, _, _, _]).bel ((Below.refl _ _).alloc (Nat.le_refl _) _)
  have hB1 : Blk W0 (w.heap.size + 1) 158 [.int .i64 0, .int .i64 0, .slice none 0 0, .slice none 0 0, .slice none 0 0] := by
    rw [← hW0]
    have := Blk.new (w.alloc (.cells #[.int .i64 gain, .int .i64 limit, .slice A samples.length cA, .slice G gaps.length c] 81)) 158 [.int .i64 0, .int .i64 0, .slice none 0 0, .slice none 0 0, .slice none 0 0]
    simpa using this
  rw [hW0]
  clear hW0
  refine (checkFrame_c gain limit A G cA c samples gaps W0 (hs.bel hb0) (hr.bel hb0) hn hg).mono ?_
  rintro e w1 ⟨rfl, hb1⟩
  have hB01 := hB0.bel hb1
  have hB11 := hB1.bel hb1
  have hsz1 : w.heap.size + 2 ≤ w1.heap.size := by have := hb1.size; omega
  have c0 := hB01.cell 0
  have c1 := hB01.cell 1
  have c2 := hB01.cell 2
  have c3 := hB01.cell 3
  simp only [List.getElem?_cons_zero, List.getElem?_cons_succ] at c0 c1 c2 c3
  have d0 := hB11.cell 0
  have d1 := hB11.cell 1
  have d2 := hB11.cell 2
  have d3 := hB11.cell 3
  have d4 := hB11.cell 4
  simp only [List.getElem?_cons_zero, List.getElem?_cons_succ] at d0 d1 d2 d3 d4
  have k0 := hB11.frozen 0
  have k1 := hB11.frozen 1
  have k2 := hB11.frozen 2
  have k3 := hB11.frozen 3
  have k4 := hB11.frozen 4
  by_cases he : (frameE gain limit samples gaps).2 = 0
  · have e1 : ((frameE gain limit samples gaps).2 != 0) = false := by simpa using he
    have HE := hide he
    clear he
    have hmk : ∀ W, (Instr.makeSlice 156 (.int .i64 (samples.length : Int)) (.int .i64 (samples.length : Int))).run Tryd.prog W = .ok (.slice (some ⟨W.heap.size, 0, none⟩) samples.length samples.length) (W.alloc (.cells (List.replicate samples.length (Value.bool false)).toArray 4)) := fun W => by
      have h1 := run_make_rowN (P := Tryd.prog) 156 4 i0 _ Tryd.underlying156 hi iz0 .i64 .i64 samples.length samples.length (Nat.le_refl _) (by rw [iz2]; omega) (by omega) W
      have h2 := madeCells_one (.bool false) rfl samples.length
      rw [iz1] at h1
      rw [h1]
      congr 3
      rw [← h2]
    go_wp2
    have hlt1 : w.heap.size < w1.heap.size := by omega
    have eA : Array.replicate samples.length (Value.bool false) = (bls (List.replicate samples.length false)).toArray := by simp [bls]
    go_upto_region 4 with (fail)
    go_cut [6] from 20 to 25 (fun v6 wx => ∃ p q : Nat, v6 = .pointer (some ⟨p, 0, none⟩) ∧ p ≠ q ∧ w1.heap.size ≤ p ∧ w1.heap.size ≤ q ∧ Below w1.heap.size w1 wx ∧
      Blk wx p 158 [.int .i64 gain, .int .i64 limit, .slice A samples.length cA, .slice G gaps.length c, .slice (some ⟨q, 0, none⟩) samples.length samples.length] ∧ Blk wx q 4 (bls (List.replicate samples.length false)))
    case first =>
      go_region_held3 (fun w' => w'.cell? ⟨w.heap.size, 0, none⟩ = some (.int .i64 gain) ∧ w'.cell? ⟨w.heap.size, 1, none⟩ = some (.int .i64 limit) ∧ w'.cell? ⟨w.heap.size, 2, none⟩ = some (.slice A samples.length cA) ∧ w'.cell? ⟨w.heap.size, 3, none⟩ = some (.slice G gaps.length c)) (go_keep) (fail)
      · go_wp2_with fail
        go_meet
        refine ⟨w1.heap.size + 1, w1.heap.size, rfl, by omega, by omega, Nat.le_refl _, (((Below.refl _ w1).alloc (Nat.le_refl _) _).alloc (by simp) _).drew, ?_, ?_⟩
        · have := Blk.new (w1.alloc (.cells (bls (List.replicate samples.length false)).toArray 4)) 158 [.int .i64 gain, .int .i64 limit, .slice A samples.length cA, .slice G gaps.length c, .slice (some ⟨w1.heap.size, 0, none⟩) samples.length samples.length]
          exact Blk.drewN (by simpa using this) 1
        · exact (Blk.new w1 4 (bls (List.replicate samples.length false))).bel (((Below.refl _ _).alloc (Nat.le_refl _) _).drew)
      · go_wp2_with fail
        go_meet
        refine ⟨w1.heap.size, w1.heap.size + 1, rfl, by omega, Nat.le_refl _, by omega, (((Below.refl _ w1).alloc (Nat.le_refl _) _).alloc (by simp) _).drew, ?_, ?_⟩
        · exact (Blk.new w1 158 [.int .i64 gain, .int .i64 limit, .slice A samples.length cA, .slice G gaps.length c, .slice (some ⟨w1.heap.size + 1, 0, none⟩) samples.length samples.length]).bel (((Below.refl _ _).alloc (Nat.le_refl _) _).drew)
        · have := Blk.new (w1.alloc (.cells #[.int .i64 gain, .int .i64 limit, .slice A samples.length cA, .slice G gaps.length c, .slice (some ⟨w1.heap.size + 1, 0, none⟩) samples.length samples.length] 158)) 4 (bls (List.replicate samples.length false))
          exact Blk.drewN (by simpa using this) 1
    case rest =>
      clear hmk c0 c1 c2 c3 d0 d1 d2 d3 d4
      obtain ⟨p, q, rfl, hpq, hp, hq, hbx, hP, hQ⟩ := hcut
      have hbel0 : Below w.heap.size w w1 := tr hb0 hb1 (by omega)
      obtain ⟨hh, hsamp, hgap⟩ := frameE_zero HE.out
      obtain ⟨_, _, l1, l2, n1, n2⟩ := headE_zero hh
      have hbel : Below w.heap.size w wc := tr (tr hb0 hb1 (by omega)) (hbx.mono (Nat.le_refl _)) (by omega)
      have HG := hide hgap
      have HSM := hide hsamp
      clear hh hsamp hgap
      have q0 := hP.cell 0
      have q1 := hP.cell 1
      have q2 := hP.cell 2
      have q3 := hP.cell 3
      have q4 := hP.cell 4
      simp only [List.getElem?_cons_zero, List.getElem?_cons_succ] at q0 q1 q2 q3 q4
      go_wp2_with fail
      go_loopw [30] (fun i wr => ∃ k : Nat, k ≤ samples.length ∧ i = .int .i64 k ∧ Below w1.heap.size w1 wr ∧
        Blk wr p 158 [.int .i64 gain, .int .i64 limit, .slice A samples.length cA, .slice G gaps.length c, .slice (some ⟨q, 0, none⟩) samples.length samples.length] ∧
        Blk wr q 4 (bls ((List.range k).map (fun i => !beyB (samples.getD i (0, 0)) (limit - 1)) ++ List.replicate (samples.length - k) false))) (fun i _ => samples.length - (intOf i).toNat)
      case atStart => exact ⟨0, Nat.zero_le _, rfl, hbx, hP, by simpa using hQ⟩
      case round =>
        obtain ⟨k, hk, rfl, hbr, hPr, hQr⟩ := hrel
        by_cases hlt : k < samples.length
        · obtain ⟨bA, offA, rfl, hbA, z1, z2⟩ := ((hs.bel hbel0).bel hbr).g_at hlt
          have f0 := hPr.cell 0
          have f1 := hPr.cell 1
          have f4 := hPr.cell 4
          simp only [List.getElem?_cons_zero, List.getElem?_cons_succ] at f0 f1 f4
          have hgd : samples.getD k (0, 0) = samples[k] := by simp [List.getD, hlt]
          generalize samples[k] = smp at hgd z1 z2
          obtain ⟨sa, sb⟩ := smp
          dsimp only at z1 z2
          have HST : Hid (((List.range k).map (fun i => !beyB (samples.getD i (0, 0)) (limit - 1)) ++ List.replicate (samples.length - k) false).set k (!beyB (sa, sb) (limit - 1)) =
              (List.range (k + 1)).map (fun i => !beyB (samples.getD i (0, 0)) (limit - 1)) ++ List.replicate (samples.length - (k + 1)) false) := by
            have := set_next (fun i => !beyB (samples.getD i (0, 0)) (limit - 1)) false _ _ hlt
            rw [hgd] at this
            exact this
          clear hgd
          obtain ⟨L, hL⟩ : ∃ L, (List.range k).map (fun i => !beyB (samples.getD i (0, 0)) (limit - 1)) ++ List.replicate (samples.length - k) false = L := ⟨_, rfl⟩
          have hLn : L.length = samples.length := by rw [← hL]; simp; omega
          rw [hL] at hQr HST
          clear hL
          go_upto_region 8 with fail
          generalize hW : wr.alloc (.cells #[.int .i64 sa, .int .i64 sb] 76) = W
          have hTW : Blk W wr.heap.size 76 [.int .i64 sa, .int .i64 sb] := by
            rw [← hW]; exact Blk.new wr 76 [.int .i64 sa, .int .i64 sb]
          have hBW : Below wr.heap.size wr W := by
            rw [← hW]; exact (Below.refl _ _).alloc (Nat.le_refl _) _
          have hPW := hPr.bel hBW
          have hQW : Hid (Blk W.drew q 4 (bls L)) := hQr.bel hBW.drew
          have hwr : w1.heap.size ≤ wr.heap.size := hbr.size
          have hplt := hPr.lt
          have hqlt := hQr.lt
          have HS : Hid (W.cell? ⟨p, 1, none⟩ = some (.int .i64 limit) ∧ W.cell? ⟨p, 4, none⟩ = some (.slice (some ⟨q, 0, none⟩) samples.length samples.length) ∧ W.cell? ⟨wr.heap.size, 0, none⟩ = some (.int .i64 sa) ∧ W.cell? ⟨wr.heap.size, 1, none⟩ = some (.int .i64 sb) ∧ Below w1.heap.size w1 W) :=
            ⟨hPW.cell 1, hPW.cell 4, hTW.cell 0, hTW.cell 1, tr hbr hBW hwr⟩
          have hz0 : w1.heap.size ≤ W.drew.heap.size := by have := hBW.size; simp; omega
          have hPH := hide hPW
          have nq1 : (⟨p, 1, none⟩ : Addr).block ≠ (⟨q, 0 + k, none⟩ : Addr).block := hpq
          have nq2 : (⟨p, 4, none⟩ : Addr).block ≠ (⟨q, 0 + k, none⟩ : Addr).block := hpq
          have nq3 : (⟨wr.heap.size, 0, none⟩ : Addr).block ≠ (⟨q, 0 + k, none⟩ : Addr).block := by show wr.heap.size ≠ q; omega
          have nq4 : (⟨wr.heap.size, 1, none⟩ : Addr).block ≠ (⟨q, 0 + k, none⟩ : Addr).block := by show wr.heap.size ≠ q; omega
          clear hW hTW hPW f0 f1 f4 z1 z2
          obtain ⟨zv, hzv⟩ : ∃ zv, (bls L)[k]? = some zv := ⟨_, List.getElem?_eq_getElem (by rw [bls_length, hLn]; exact hlt)⟩
          have hwl : IntKind.i64.wrap (limit - 1) = limit - 1 := by simp (disch := omega) only [IntWalk.i64_in]
          have ix0 : (0 : Int) ≤ (k : Int) := by omega
          have ix1 : (k : Int) < (samples.length : Int) := by omega
          go_region_held3 (fun w' => w'.cell? ⟨p, 1, none⟩ = some (.int .i64 limit) ∧ w'.cell? ⟨p, 4, none⟩ = some (.slice (some ⟨q, 0, none⟩) samples.length samples.length) ∧ w'.cell? ⟨wr.heap.size, 0, none⟩ = some (.int .i64 sa) ∧ w'.cell? ⟨wr.heap.size, 1, none⟩ = some (.int .i64 sb) ∧ Below w1.heap.size w1 w')
            (first | with_reducible exact hold4_drew HS.out | with_reducible exact hold4_bel (hold4_drew HS.out) hb3 hz0 | with_reducible exact hold4_set (hold4_bel (hold4_drew HS.out) hb3 hz0) nq1 nq2 nq3 nq4 hq)
            (first | (go_at_call 112; have hcall := beyond_c sa sb (limit - 1) W.drew (by omega) (by omega); refine hcall.mono ?_; rintro e w3 ⟨rfl, hb3⟩; have hq3 := hQW.out.bel hb3; have zf3 := hq3.frozen k; have zc3 := (hq3.cell k).trans hzv))
          have hP3 : Blk w3 p 158 _ := Blk.bel (w := W.drew) hPH.out hb3
          have hB3 : Below w1.heap.size w1 w3 := tr (b := W.drew) (HS.out.2.2.2.2).drew hb3 hz0
          go_wp2_with fail
          go_roundw
          case rel =>
            refine ⟨k + 1, by omega, by go_num, hB3.setCell hq _, hP3.far hpq _, ?_⟩
            have := hq3.set_ k (.bool (!beyB (sa, sb) (limit - 1)))
            rw [bls_set, HST.out] at this
            exact this
          case measure => simp [intOf]; omega
        · obtain rfl : k = samples.length := by omega
          have e3 : (List.range samples.length).map (fun i => !beyB (samples.getD i (0, 0)) (limit - 1)) ++ List.replicate (samples.length - samples.length) false = useK limit samples gaps 0 := by rw [useK_zero]; simp
          rw [e3] at hQr
          have r3 := hPr.cell 3
          simp only [List.getElem?_cons_zero, List.getElem?_cons_succ] at r3
          go_wp2
          go_loopw [51] (fun i wx => ∃ k : Nat, k ≤ gaps.length ∧ i = .int .i64 k ∧ Below w1.heap.size w1 wx ∧
            Blk wx p 158 [.int .i64 gain, .int .i64 limit, .slice A samples.length cA, .slice G gaps.length c, .slice (some ⟨q, 0, none⟩) samples.length samples.length] ∧
            Blk wx q 4 (bls (useK limit samples gaps k))) (fun i _ => gaps.length - (intOf i).toNat)
          case atStart => exact ⟨0, Nat.zero_le _, rfl, hbr, hPr, hQr⟩
          case round =>
            clear hbr hPr hQr e3
            obtain ⟨k, hk, rfl, hbr, hPr, hQr⟩ := hrel
            by_cases hlt : k < gaps.length
            · have f4 := hPr.cell 4
              simp only [List.getElem?_cons_zero, List.getElem?_cons_succ] at f4
              obtain ⟨bG, offG, rfl, hbG, z1⟩ := ((hr.bel hbel0).bel hbr).int_at hlt
              have hgk := HG.out _ (List.getElem_mem hlt)
              obtain ⟨gk, hgk'⟩ : ∃ gk : Nat, gaps[k] = (gk : Int) := ⟨gaps[k].toNat, by omega⟩
              have hset := hide (hQr.set_ gk (.bool false))
              rw [hgk'] at z1 hgk
              have hgk2 : gk < samples.length := by omega
              have zc := hQr.cell gk
              have zf := hQr.frozen gk
              rw [List.getElem?_eq_getElem (by rw [bls_length, useK_length]; exact hgk2)] at zc
              go_wp2_with fail
              go_roundw
              case rel =>
                refine ⟨k + 1, by omega, by go_num, hbr.setCell hq _, hPr.far hpq _, ?_⟩
                have := hset.out
                rw [bls_set, useK_set limit samples gaps k hlt gk hgk'] at this
                exact this
              case measure => simp [intOf]; omega
            · obtain rfl : k = gaps.length := by omega
              rw [useK_all] at hQr
              have f0 := hPr.cell 0
              have f1 := hPr.cell 1
              have f2 := hPr.cell 2
              have f3 := hPr.cell 3
              have f4 := hPr.cell 4
              simp only [List.getElem?_cons_zero, List.getElem?_cons_succ] at f0 f1 f2 f3 f4
              have hDr : Blk wr (w.heap.size + 1) 158 _ := hB11.below hbr (by omega)
              have d0 := hDr.cell 0
              have d1 := hDr.cell 1
              have d2 := hDr.cell 2
              have d3 := hDr.cell 3
              have d4 := hDr.cell 4
              simp only [List.getElem?_cons_zero, List.getElem?_cons_succ] at d0 d1 d2 d3 d4
              have k0 := hDr.frozen 0
              have k1 := hDr.frozen 1
              have k2 := hDr.frozen 2
              have k3 := hDr.frozen 3
              have k4 := hDr.frozen 4
              go_wp2_with fail
              try simp only [Exit.inBlock, Exit.then]
              obtain ⟨WE, hWE⟩ : ∃ WE, ((((wr.setCell ⟨w.heap.size + 1, 0, none⟩ (.int .i64 gain)).setCell ⟨w.heap.size + 1, 1, none⟩ (.int .i64 limit)).setCell ⟨w.heap.size + 1, 2, none⟩ (.slice A samples.length cA)).setCell ⟨w.heap.size + 1, 3, none⟩ (.slice G gaps.length c)).setCell ⟨w.heap.size + 1, 4, none⟩ (.slice (some ⟨q, 0, none⟩) samples.length samples.length) = WE := ⟨_, rfl⟩
              rw [hWE]
              have hE : Blk WE (w.heap.size + 1) 158 [.int .i64 gain, .int .i64 limit, .slice A samples.length cA, .slice G gaps.length c, .slice (some ⟨q, 0, none⟩) samples.length samples.length] := by
                rw [← hWE]; exact ((((hDr.set_ 0 _).set_ 1 _).set_ 2 _).set_ 3 _).set_ 4 _
              have hqD : ∀ i, q ≠ (⟨w.heap.size + 1, i, none⟩ : Addr).block := fun i => by show q ≠ w.heap.size + 1; omega
              have hQE : Blk WE q 4 (bls (usableL limit samples gaps)) := by
                rw [← hWE]; exact ((((hQr.far (hqD 0) _).far (hqD 1) _).far (hqD 2) _).far (hqD 3) _).far (hqD 4) _
              have hBE : Below w.heap.size w WE := by
                have hX : Below w.heap.size w wr := tr hbel0 hbr (by omega)
                rw [← hWE]
                exact ((((hX.setCell (by simp) _).setCell (by simp) _).setCell (by simp) _).setCell (by simp) _).setCell (by simp) _
              have g0 := hE.cell 0
              have g1 := hE.cell 1
              have g2 := hE.cell 2
              have g3 := hE.cell 3
              have g4 := hE.cell 4
              simp only [List.getElem?_cons_zero, List.getElem?_cons_succ] at g0 g1 g2 g3 g4
              clear hWE
              refine bodyPost_ret (by simp [results, Tryd.results114, go_sem, g0, g1, g2, g3, g4]; try rfl) rfl ?_
              exact ⟨.inr ⟨HE.out, _, _, rfl, hQE.rdT (List.prefix_refl _)⟩, hBE⟩
  · have e1 : ((frameE gain limit samples gaps).2 != 0) = true := by simpa using he
    have HE := hide he
    clear he
    go_wp2
    try simp only [Exit.inBlock, Exit.then]
    refine bodyPost_ret (by simp [results, Tryd.results114, go_sem, d0, d1, d2, d3, d4]; try rfl) rfl ?_
    refine ⟨.inl ⟨HE.out, rfl⟩, ?_⟩
    have hX : Below w.heap.size w w1 := tr hb0 hb1 (by omega)
    exact ((((hX.setCell (by simp) _).setCell (by simp) _).setCell (by simp) _).setCell (by simp) _).setCell (by simp) _
end Go.Proofs.YtmedjedmeggbpaaDoor
