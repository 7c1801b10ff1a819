/- Contracts: the error of frames, copies of frames, as the reference has them. -/
import Derived.Test.YtnigmdkhecblnaaDoorP14
set_option linter.unusedSimpArgs false
set_option linter.unusedVariables false
namespace Go.Proofs.YtnigmdkhecblnaaDoor
open Go.RowKit
set_option maxRecDepth 100000

theorem frErr_c (f : Fr) (w : World) (hok : f.ok w) : Calls Tryd.prog 11 #[.agg #[.int .i64 f.gain, .int .i64 f.limit, .slice f.A f.samples.length f.cA, .slice f.G f.gaps.length f.cG]] w fun r w' => r = .returned (.int .i64 f.err) ∧ Below w.heap.size w w' := by
  obtain ⟨hs, hr, hn, hg⟩ := hok
  unfold Fr.err
  generalize f.gain = gain
  generalize f.limit = limit
  generalize f.A = A at hs ⊢
  generalize f.G = G at hr ⊢
  generalize f.cA = cA
  generalize f.cG = c
  generalize f.samples = samples at hs hn ⊢
  generalize f.gaps = gaps at hr hg ⊢
  show Calls _ _ _ _ fun r w' => r = .returned (.int .i64 (frameE gain limit samples gaps).2) ∧ Below w.heap.size w w'
  have HRC := hide (fun W h1 h2 => refCheckFrame_c gain limit A G cA c samples gaps W h1 h2 (by omega) (by omega))
  have hX := Blk.new w 25 [.int .i64 gain, .int .i64 limit, .slice A samples.length cA, .slice G gaps.length c]
  generalize (frameE gain limit samples gaps).2 = E at HRC ⊢
  generalize (frameE gain limit samples gaps).1 = I at HRC
  have c0 := hX.cell 0; have c1 := hX.cell 1; have c2 := hX.cell 2; have c3 := hX.cell 3; simp only [List.getElem?_cons_zero, List.getElem?_cons_succ] at c0 c1 c2 c3
  go_enter Tryd.func11, Tryd.ntmps11
  go_wp2_with (first | (go_at_call 46; refine (HRC.out _ (hs.bel (alloc_bel _ _)) (hr.bel (alloc_bel _ _))).mono ?_; rintro e w1 ⟨rfl, hb1⟩; have hW1 : Below w.heap.size w w1 := tr (alloc_bel _ _) hb1 (by simp)))
  go_ret
  exact ⟨rfl, hW1⟩

theorem firstE_at : ∀ {l : List Int} {k : Nat} (hk : k < l.length), (∀ i (h : i < l.length), i < k → l[i] = 0) → l[k] ≠ 0 → firstE l = l[k]
  | e :: l, 0, _, _, h => by unfold firstE; exact if_neg (show e ≠ 0 from h)
  | e :: l, k + 1, hk, h0, h => by
    have h1 : e = 0 := h0 0 (by simp) (by omega)
    unfold firstE
    rw [if_pos h1]
    exact firstE_at (by simpa using hk) (fun i hi hik => h0 (i + 1) (by simpa using hi) (by omega)) h
theorem firstE_none : ∀ {l : List Int}, (∀ e ∈ l, e = 0) → firstE l = 0
  | [], _ => rfl
  | e :: l, h => by unfold firstE; rw [if_pos (h e (by simp))]; exact firstE_none fun x hx => h x (by simp [hx])

/-- What a frame says, wherever it lies. -/
def Fr.dat (f : Fr) : Int × Int × List (Int × Int) × List Int := (f.gain, f.limit, f.samples, f.gaps)
theorem Fr.err_dat {f g : Fr} (h : f.dat = g.dat) : f.err = g.err := by
  simp only [Fr.dat, Prod.mk.injEq] at h
  obtain ⟨h1, h2, h3, h4⟩ := h
  unfold Fr.err; rw [h1, h2, h3, h4]
theorem Fr.pows_dat {f g : Fr} (h : f.dat = g.dat) (n : Nat) : f.pows n = g.pows n := by
  simp only [Fr.dat, Prod.mk.injEq] at h
  obtain ⟨_, h2, h3, h4⟩ := h
  unfold Fr.pows; rw [h2, h3, h4]
theorem framesE_dat : ∀ {l m : List Fr}, l.map Fr.dat = m.map Fr.dat → framesE l = framesE m := by
  intro l m h
  have hl : l.length = m.length := by simpa using congrArg List.length h
  have he : l.map Fr.err = m.map Fr.err := by
    refine List.ext_getElem (by simpa using hl) fun i h1 h2 => ?_
    have hi : i < l.length := by simpa using h1
    have hm : i < m.length := by simpa using h2
    have := List.getElem_of_eq h (show i < (l.map Fr.dat).length by simpa using hi)
    simp only [List.getElem_map] at this ⊢
    exact Fr.err_dat this
  unfold framesE
  rw [hl, he]
theorem powSum_dat {l m : List Fr} (h : l.map Fr.dat = m.map Fr.dat) : powSum l = powSum m := by
  funext n
  have hl : l.length = m.length := by simpa using congrArg List.length h
  have he : l.map (fun f => f.pows n) = m.map (fun f => f.pows n) := by
    refine List.ext_getElem (by simpa using hl) fun i h1 h2 => ?_
    have hi : i < l.length := by simpa using h1
    have := List.getElem_of_eq h (show i < (l.map Fr.dat).length by simpa using hi)
    simp only [List.getElem_map] at this ⊢
    exact Fr.pows_dat this n
  unfold powSum
  rw [he]

def Fr.okT (w : World) (f : Fr) : Prop := RdT w 47 f.A (gs f.samples) ∧ RdT w 3 f.G (ints f.gaps) ∧ f.samples.length ≤ 1000 ∧ f.gaps.length ≤ 1000
theorem Fr.okT.bel {w w' : World} {f : Fr} (h : f.okT w) (hb : Below w.heap.size w w') : f.okT w' := ⟨h.1.bel hb, h.2.1.bel hb, h.2.2⟩
theorem Fr.okT.ok {w : World} {f : Fr} (h : f.okT w) : f.ok w := ⟨h.1.1, h.2.1.1, h.2.2⟩
theorem Tryd.infoFrame : (Tryd.prog.info? 25).map (fun i => (i.zero, i.size, i.bytes)) = some (some (.agg #[.int .i64 0, .int .i64 0, .slice none 0 0, .slice none 0 0]), 4, 64) := by kernel_rfl

set_option maxHeartbeats 1000000 in
theorem refCopyFrames_c (l : List Fr) (F : Option Addr) (c : Nat) (w : World) (hr : Rd w F (l.map Fr.row).flatten) (hok : ∀ f ∈ l, f.ok w) (hl : l.length ≤ 1000) :
    Calls Tryd.prog 30 #[.slice F l.length c] w fun r w' => (∃ (A' : Option Addr) (c' : Nat) (m : List Fr), r = .returned (.slice A' l.length c') ∧ m.length = l.length ∧ m.map Fr.dat = l.map Fr.dat ∧ Rd w' A' (m.map Fr.row).flatten ∧ ∀ f ∈ m, f.ok w') ∧ Below w.heap.size w w' := by
  obtain ⟨i0, hi, iz0, iz1, iz2⟩ := info_parts Tryd.infoFrame
  have HCF := hide (fun (k : Nat) (h : k < l.length) W (hb : Below w.heap.size w W) => copyFrame_c l[k].gain l[k].limit l[k].A l[k].G l[k].cA l[k].cG l[k].samples l[k].gaps W ((hok _ (List.getElem_mem h)).1.bel hb) ((hok _ (List.getElem_mem h)).2.1.bel hb) (hok _ (List.getElem_mem h)).2.2.1 (hok _ (List.getElem_mem h)).2.2.2)
  have HLN := hide (fun (k : Nat) (h : k < l.length) => (hok _ (List.getElem_mem h)).2.2)
  clear hok
  go_enter Tryd.func30, Tryd.ntmps30
  go_wp2
  go_loopw [3, 4] (fun v i wr => ∃ (k : Nat) (m : List Fr), k ≤ l.length ∧ i = .int .i64 k ∧ Below w.heap.size w wr ∧ m.length = k ∧ m.map Fr.dat = (l.take k).map Fr.dat ∧ wr.ownsRow w.heap.size 25 4 v k (m.map Fr.row).flatten ∧ ∀ f ∈ m, f.okT wr) (fun _ i _ => l.length - (intOf i).toNat)
  case atStart => exact ⟨0, [], Nat.zero_le _, rfl, Below.refl _ _, rfl, rfl, World.ownsRow_nil _ _ _ _, fun f h => by cases h⟩
  case round =>
    obtain ⟨k, m, hk, rfl, hbr, hmk, hmd, hown, hmo⟩ := hrel
    obtain ⟨Av, cv, rfl⟩ := ownsRow_slice hown
    by_cases hlt : k < l.length
    · obtain ⟨bF, oF, rfl, hbF, s0, s1, s2, s3⟩ := hr.fr_at hlt
      have s0 := (hbr.cell (p := ⟨bF, _, none⟩) hbF).trans s0
      have s1 := (hbr.cell (p := ⟨bF, _, none⟩) hbF).trans s1
      have s2 := (hbr.cell (p := ⟨bF, _, none⟩) hbF).trans s2
      have s3 := (hbr.cell (p := ⟨bF, _, none⟩) hbF).trans s3
      have HC := hide (HCF.out k hlt wr hbr)
      have hln := HLN.out k hlt
      have ix0 : (0 : Int) ≤ (k : Int) := by omega
      have ix1 : (k : Int) < (l.length : Int) := by omega
      have HD : Hid (∀ f : Fr, f.dat = l[k].dat → (m ++ [f]).map Fr.dat = (l.take (k + 1)).map Fr.dat) := fun f hf => by
        rw [List.take_succ_eq_append_getElem hlt, List.map_append, List.map_append, hmd, List.map_singleton, List.map_singleton, hf]
      have HDAT : Hid (l[k].dat = (l[k].gain, l[k].limit, l[k].samples, l[k].gaps)) := rfl
      have HMD := hide hmd
      have HMO := hide hmo
      have HMK := hide hmk
      clear hmd hmo hmk
      generalize l[k].dat = dt at HD HDAT
      generalize l[k].gain = fg at s0 HC HDAT
      generalize l[k].limit = fl at s1 HC HDAT
      generalize l[k].A = fA at s2 HC
      generalize l[k].cA = fcA at s2 HC
      generalize l[k].G = fG at s3 HC
      generalize l[k].cG = fcG at s3 HC
      generalize l[k].samples = sm at s2 HC HDAT hln
      generalize l[k].gaps = gp at s3 HC HDAT hln
      go_wp2_with (first
        | (go_at_call 9; refine HC.out.mono ?_; rintro e w3 ⟨⟨A3, cA3, G3, c3, rfl, hA3, hG3⟩, hb3⟩; have hown3 := ownsRow_bel hown hb3)
        | (at_builtin; refine wpList_append_own _ rfl _ _ 41 rfl w.heap.size 25 i0 _ 4 64 Tryd.underlying41 hi iz0 iz1 iz2 rfl (by decide) _ _ _ rfl (hown3.alloc _) ⟨w3.heap.size, 0, none⟩ 1 1 [.int .i64 fg, .int .i64 fl, .slice A3 sm.length cA3, .slice G3 gp.length c3] rfl rfl (World.news_of_block (heap_alloc_new w3 _)) (by simp [Value.oneCell']) (by unfold maxLen; omega) (by omega) (by have := hb3.size; have := hbr.size; simp; omega) ?_; intro v' w5 hown5 hg5 _))
      have hb3' := bel_tr hbr hbr.size hb3
      have hb5 : Below w.heap.size w w5 := (hb3'.alloc hb3'.size _).grown hg5 (by have := hb3'.size; simp; omega) (fun j hj => (hown3.lt j hj).1)
      have hk1 : KeepT 47 _ w5 := ownKeep (hown3.alloc _) hg5 (by decide)
      have hk2 : KeepT 3 _ w5 := ownKeep (hown3.alloc _) hg5 (by decide)
      go_roundw
      case rel =>
        refine ⟨k + 1, m ++ [⟨fg, fl, A3, cA3, sm, G3, c3, gp⟩], by omega, by go_num, hb5, by rw [List.length_append, HMK.out]; rfl, HD.out ⟨fg, fl, A3, cA3, sm, G3, c3, gp⟩ (show (fg, fl, sm, gp) = dt from HDAT.out.symm), ?_, fun f hf => ?_⟩
        · rw [List.map_append, List.flatten_append]
          exact hown5
        · rcases List.mem_append.1 hf with h | h
          · have := (HMO.out f h).bel (hb3.trans ((alloc_bel w3 (.cells #[.int .i64 fg, .int .i64 fl, .slice A3 sm.length cA3, .slice G3 gp.length c3] 25)).mono hb3.size))
            exact ⟨this.1.keep hk1, this.2.1.keep hk2, this.2.2⟩
          · obtain rfl := List.mem_singleton.1 h
            exact ⟨(hA3.al _).keep hk1, (hG3.al _).keep hk2, hln⟩
      case measure => simp [intOf]; omega
    · obtain rfl : k = l.length := by omega
      rw [List.take_length] at hmd
      go_wp2
      go_ret
      exact ⟨⟨Av, cv, m, rfl, hmk, hmd, Rd.of_own hown, fun f hf => (hmo f hf).ok⟩, hbr⟩
end Go.Proofs.YtnigmdkhecblnaaDoor
