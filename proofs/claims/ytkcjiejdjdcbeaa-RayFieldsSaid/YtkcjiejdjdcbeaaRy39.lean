/- Contracts: the index squares of a sky. -/
import Derived.Test.YtkcjiejdjdcbeaaRy35
set_option linter.unusedSimpArgs false
set_option linter.unusedVariables false
set_option linter.unusedSimpArgs false
set_option linter.unusedVariables false
namespace Go.Proofs.Ytkcjiejdjdcbeaa
open Go.RowKit
set_option maxRecDepth 100000

def ixsE (H f : Int) (l : List G) : Int := firstE [(skyE H l).2, freqE f]
theorem Try.infoQ9 : (Try.prog.info? 26).map (fun i => (i.zero, i.size, i.bytes)) = some (some (.agg #[.int .i64 0, .int .i64 0]), 2, 16) := by kernel_rfl
theorem gs_repl (n : Nat) : gs (List.replicate n (0, 0)) = List.replicate (n * 2) (.int .i64 0) := by
  induction n with
  | zero => rfl
  | succ n ih => rw [List.replicate_succ, gs_cons, ih, show (n + 1) * 2 = n * 2 + 1 + 1 from by omega, List.replicate_succ, List.replicate_succ]
theorem madeCells_fr (n : Nat) : (madeCells (Value.agg #[.int .i64 0, .int .i64 0]).cells (n * 2)).toList = gs (List.replicate n (0, 0)) := by
  rw [show (Value.agg #[.int .i64 0, .int .i64 0]).cells = #[.int .i64 0, .int .i64 0] from rfl, gs_repl]
  simp [madeCells]
  refine List.ext_getElem (by simp) fun i h1 h2 => ?_
  have hm : i % 2 = 0 ∨ i % 2 = 1 := by omega
  rcases hm with h | h <;> simp [h]
theorem makeFracs (n : Nat) (hn : n ≤ 1000) (W : World) : (Instr.makeSlice 33 (.int .i64 (n : Int)) (.int .i64 (n : Int))).run Try.prog W = .ok (.slice (some ⟨W.heap.size, 0, none⟩) n n) (W.alloc (.cells (gs (List.replicate n (0, 0))).toArray 26)) := by
  obtain ⟨i0, hi, iz0, iz1, iz2⟩ := info_parts Try.infoQ9
  have h1 := run_make_rowN (P := Try.prog) 33 26 i0 _ Try.underlying33 hi iz0 .i64 .i64 n n (Nat.le_refl _) (by rw [iz2]; omega) (by omega) W
  have h2 := madeCells_fr n
  rw [iz1] at h1
  rw [h1]
  congr 3
  rw [← h2]
theorem idxL_len (f : Int) (l : List G) : (idxL f l).length = l.length := by simp [idxL]
theorem idxL_set {f : Int} {l : List G} {k : Nat} (hlt : k < l.length) : (idxL f (l.take k) ++ List.replicate (l.length - k) (0, 0)).set k (idxQ l[k].2 f) = idxL f (l.take (k + 1)) ++ List.replicate (l.length - (k + 1)) (0, 0) := by
  have e : l.length - k = (l.length - (k + 1)) + 1 := by omega
  have e2 : (idxL f (l.take k)).length = k := by rw [idxL_len, List.length_take]; omega
  rw [List.set_append_right _ _ (by omega), idxL_take hlt, e, List.replicate_succ, e2, Nat.sub_self, List.set_cons_zero, List.append_assoc]
  rfl
/-- The index squares of a sky that is valid. -/
def ixsL (H f : Int) (l : List G) : List G := if ixsE H f l = 0 then idxL f l else []
theorem indexesOf_bad (H f : Int) (A : Option Addr) (c : Nat) (l : List G) (w : World) (hr : Rd w A (gs l)) (hl : l.length ≤ 1000) (he : ixsE H f l ≠ 0) :
    Calls Try.prog 20 #[.agg #[.int .i64 H, .slice A l.length c], .int .i64 f] w fun r w' => r = .returned (.tuple #[.slice none 0 0, .int .i64 (ixsE H f l)]) ∧ Below w.heap.size w w' := by
  have HS := hide (fun W (h : Rd W A (gs l)) => skyError_c H A c l W h hl)
  have HF := hide (fun W => frequencyError_c f W)
  have HE : Hid (ixsE H f l = firstE [(skyE H l).2, freqE f]) := rfl
  generalize ixsE H f l = e at he HE ⊢
  generalize (skyE H l).2 = es at HS HE
  generalize hfq : freqE f = ef at HE
  rw [hfq] at HF
  clear hfq
  have e1 : (e != 0) = true := by simpa using he
  have hX := Blk.new w 24 [.int .i64 H, .slice A l.length c]
  have hbel := alloc_bel w (.cells #[.int .i64 H, .slice A l.length c] 24)
  have hrW := hr.bel hbel
  generalize hW : w.alloc (.cells #[.int .i64 H, .slice A l.length c] 24) = W at hX hbel hrW
  have HW := hide hW
  clear hW
  have c0 := hX.cell 0; have c1 := hX.cell 1; simp only [List.getElem?_cons_zero, List.getElem?_cons_succ] at c0 c1
  go_enter Try.func20, Try.ntmps20
  go_upto_region 1 with fail
  rw [HW.out]
  go_upto_region 2 with (first
    | (go_at_call 95; refine (HS.out _ hrW).mono ?_; rintro e_ w1 ⟨rfl, hb1⟩)
    | (go_at_call 98; refine (HF.out _).mono ?_; rintro e_ w_ ⟨rfl, rfl⟩)
    | (go_at_call 90; refine (firstError_2 _ _ _).mono ?_; rintro e_ w_ ⟨rfl, rfl⟩))
  rw [← HE.out]
  obtain ⟨w2, hw2⟩ : ∃ w2, w1.alloc (.cells #[.int .i64 es, .int .i64 ef] 29) = w2 := ⟨_, rfl⟩
  have hb2 : Below W.heap.size W w2 := by rw [← hw2]; exact bel_alloc hb1 hb1.size _
  rw [hw2]
  go_wp2
  go_ret2
  exact ⟨rfl, bel_tr hbel hbel.size hb2⟩
set_option maxHeartbeats 2000000 in
theorem indexesOf_ok (H f : Int) (A : Option Addr) (c : Nat) (l : List G) (w : World) (hr : Rd w A (gs l)) (hl : l.length ≤ 1000) (he : ixsE H f l = 0) :
    Calls Try.prog 20 #[.agg #[.int .i64 H, .slice A l.length c], .int .i64 f] w fun r w' => (∃ A' c', r = .returned (.tuple #[.slice A' l.length c', .int .i64 0]) ∧ Rd w' A' (gs (idxL f l))) ∧ Below w.heap.size w w' := by
  have hz : (1 ≤ H ∧ H ≤ 500 ∧ 1 ≤ l.length ∧ l.length ≤ 12 ∧ OkS l) ∧ (1 ≤ f ∧ f ≤ 3000) := by
    unfold ixsE at he
    rw [firstE_zero, firstE_zero] at he
    exact ⟨skyE_zero he.1, freqE_zero he.2.1⟩
  obtain ⟨⟨H0, H1, l0, l1, hok⟩, f0, f1⟩ := hz
  have HS := hide (fun W (h : Rd W A (gs l)) => skyError_c H A c l W h hl)
  have HF := hide (fun W => frequencyError_c f W)
  have HE : Hid (0 = firstE [(skyE H l).2, freqE f]) := he.symm
  generalize (skyE H l).2 = es at HS HE
  generalize hfq : freqE f = ef at HE
  rw [hfq] at HF
  clear hfq he
  have hX := Blk.new w 24 [.int .i64 H, .slice A l.length c]
  have hbel := alloc_bel w (.cells #[.int .i64 H, .slice A l.length c] 24)
  have hrW := hr.bel hbel
  generalize hW : w.alloc (.cells #[.int .i64 H, .slice A l.length c] 24) = W at hX hbel hrW
  have HW := hide hW
  clear hW
  have c0 := hX.cell 0; have c1 := hX.cell 1; simp only [List.getElem?_cons_zero, List.getElem?_cons_succ] at c0 c1
  go_enter Try.func20, Try.ntmps20
  go_upto_region 1 with fail
  rw [HW.out]
  go_upto_region 2 with (first
    | (go_at_call 95; refine (HS.out _ hrW).mono ?_; rintro e_ w1 ⟨rfl, hb1⟩)
    | (go_at_call 98; refine (HF.out _).mono ?_; rintro e_ w_ ⟨rfl, rfl⟩)
    | (go_at_call 90; refine (firstError_2 _ _ _).mono ?_; rintro e_ w_ ⟨rfl, rfl⟩))
  rw [← HE.out]
  obtain ⟨w2, hw2⟩ : ∃ w2, w1.alloc (.cells #[.int .i64 es, .int .i64 ef] 29) = w2 := ⟨_, rfl⟩
  have hb2 : Below W.heap.size W w2 := by rw [← hw2]; exact bel_alloc hb1 hb1.size _
  rw [hw2]
  have hX2 := hX.bel hb2
  have hr2 := hrW.bel hb2
  have hB2 : Below w.heap.size w w2 := bel_tr hbel hbel.size hb2
  clear hw2 hb2 hb1 c0 c1 hX hrW HS HF HE
  have c0 := hX2.cell 0; have c1 := hX2.cell 1; simp only [List.getElem?_cons_zero, List.getElem?_cons_succ] at c0 c1
  have zx := hX2.lt
  go_upto_region 4 with fail
  have HMK2 := makeFracs l.length hl w2
  obtain ⟨g, hg⟩ : ∃ g, w2.heap.size = g := ⟨_, rfl⟩
  obtain ⟨W3, hW3⟩ : ∃ W3, w2.alloc (.cells (gs (List.replicate l.length (0, 0))).toArray 26) = W3 := ⟨_, rfl⟩
  have hB3 : Below g w2 W3 := by rw [← hW3, ← hg]; exact alloc_bel _ _
  have hG3 : Blk W3 g 26 (gs (List.replicate l.length (0, 0))) := by rw [← hW3, ← hg]; exact Blk.new w2 _ _
  rw [hW3, hg] at HMK2
  have hX2' := hX2
  have hr2' := hr2
  have hX3 := hX2.bel (by rw [hg]; exact hB3)
  have hgw : w.heap.size < g := by have := hbel.size; omega
  have hXg : w.heap.size < g := hgw
  rw [hg] at zx
  have hsz3 : g < W3.heap.size := hG3.lt
  have zx3 := hX3.lt
  have hr3 := hr2.bel (by rw [hg]; exact hB3)
  have hbw2 := hB2
  clear hW3 hX2 hbel HW hr hr2
  have hX2h := hide hX2'
  have hrh := hide hr2'
  have t0 := hX3.cell 0; have t1 := hX3.cell 1; simp only [List.getElem?_cons_zero, List.getElem?_cons_succ] at t0 t1
  go_upto_region 6 with fail
  clear HMK2 c0 c1
  go_loopw [26] (fun i wr => ∃ k : Nat, k ≤ l.length ∧ i = .int .i64 k ∧ Below g w2 wr ∧ Blk wr g 26 (gs (idxL f (l.take k) ++ List.replicate (l.length - k) (0, 0)))) (fun i _ => l.length - (intOf i).toNat)
  case atStart => exact ⟨0, Nat.zero_le _, rfl, hB3, by simpa [idxL] using hG3⟩
  case round =>
    obtain ⟨k, hk, rfl, hbr, hGr⟩ := hrel
    have hXr : Blk wr w.heap.size 24 [.int .i64 H, .slice A l.length c] := (hbr.block _ hXg).trans hX2h.out
    have hrr : Rd wr A (gs l) := hrh.out.below hbr (by omega)
    have hzr : g ≤ wr.heap.size := by have := hbr.size; omega
    clear hX3 hr3 hB3 hG3 t0 t1
    by_cases hlt : k < l.length
    · obtain ⟨b, off, rfl, hbl, z0, z1⟩ := hrr.g_at hlt
      have o := hok _ (List.getElem_mem hlt)
      have hLn : (idxL f (l.take k) ++ List.replicate (l.length - k) (0, 0)).length = l.length := by simp [idxL]; omega
      have hLS : Hid ((idxL f (l.take k) ++ List.replicate (l.length - k) (0, 0)).set k (idxQ l[k].2 f) = idxL f (l.take (k + 1)) ++ List.replicate (l.length - (k + 1)) (0, 0)) := idxL_set hlt
      have HIX := hide (fun W => indexOf_c l[k].2 f W f0 f1 o.2.2.1 o.2.2.2)
      generalize idxQ l[k].2 f = z at HIX hLS
      generalize l[k] = n at z0 z1 HIX
      obtain ⟨za, zb⟩ := z
      obtain ⟨n1, n2⟩ := n
      dsimp only at z0 z1 HIX
      generalize idxL f (l.take k) ++ List.replicate (l.length - k) (0, 0) = L at hGr hLn hLS
      obtain ⟨gk, hgk⟩ : ∃ gk, L[k]? = some gk := ⟨_, List.getElem?_eq_getElem (by omega)⟩
      have hLnH := hide hLn
      clear hLn o
      go_wp2_with (go_at_call 99; refine (HIX.out _).mono ?_; rintro e_ w5 ⟨rfl, hb5⟩; have hb5' : Below (g + 1) wr w5 := (bel_alloc (Below.refl _ _) (Nat.le_refl _) _ |>.trans (hb5.mono (by simp))).mono hGr.lt; have hGr5 : Blk w5 g 26 (gs L) := hGr.below hb5' (by omega); obtain ⟨y0, y1⟩ := hGr5.g_at hgk; have q0 := hGr5.frozen (k * 2); have q1 := hGr5.frozen (k * 2 + 1); have hz5 := hGr5.lt; have hset := hide (hGr5.setG (k := k) (g := (za, zb)) (by have := hLnH.out; omega)); have hbE : Below g w2 w5 := hbr.trans (hb5'.mono (by omega)))
      go_roundw
      case rel => exact ⟨k + 1, by omega, by go_num, (hbE.setCell (Nat.le_refl _) _).setCell (Nat.le_refl _) _, by rw [← hLS.out]; exact hset.out⟩
      case measure => simp [intOf]; omega
    · obtain rfl : k = l.length := by omega
      go_wp2
      go_ret2
      refine ⟨⟨_, _, rfl, ?_⟩, hbw2.trans (hbr.mono (by omega))⟩
      rw [Nat.sub_self, List.replicate_zero, List.append_nil, List.take_of_length_le (Nat.le_refl _)] at hGr
      exact hGr.rd (List.prefix_refl _)
theorem indexesOf_c (H f : Int) (A : Option Addr) (c : Nat) (l : List G) (w : World) (hr : Rd w A (gs l)) (hl : l.length ≤ 1000) :
    Calls Try.prog 20 #[.agg #[.int .i64 H, .slice A l.length c], .int .i64 f] w fun r w' => (∃ A' c', r = .returned (.tuple #[.slice A' (ixsL H f l).length c', .int .i64 (ixsE H f l)]) ∧ Rd w' A' (gs (ixsL H f l))) ∧ Below w.heap.size w w' := by
  by_cases he : ixsE H f l = 0
  · unfold ixsL
    rw [if_pos he, idxL_len, he]
    exact indexesOf_ok H f A c l w hr hl he
  · unfold ixsL
    rw [if_neg he]
    exact (indexesOf_bad H f A c l w hr hl he).mono fun r w' ⟨h1, h2⟩ => ⟨⟨none, 0, h1, Rd.nil _ _⟩, h2⟩
end Go.Proofs.Ytkcjiejdjdcbeaa
