/- Contracts: the offset at a time by one and by several exchanges, true times. -/
import Derived.Test.YtnjdkdmfeonabaaE3
set_option linter.unusedSimpArgs false
set_option linter.unusedVariables false
set_option linter.unusedSimpArgs false
set_option linter.unusedVariables false
namespace Go.Proofs.Ytnjdkdmfeonabaa
open Go.RowKit
set_option maxRecDepth 100000

/-- What all ranges have in common. -/
def comA (L : List G) : G := L.foldl comR (L.headD (0, 0))
/-- The answer of OffsetAt. -/
def atR (l : List PT) (drift T : Int) : G × Int := if offE l drift T = 0 then (if (comA (offL l drift T)).2 < (comA (offL l drift T)).1 then ((0, 0), 13) else (comA (offL l drift T), 0)) else ((0, 0), offE l drift T)
set_option maxHeartbeats 1000000 in
theorem offsetAt_bad (A : Option Addr) (c : Nat) (l : List PT) (drift T : Int) (w : World) (hr : Rd w A (ps l)) (hl : l.length ≤ 1000) (he : offE l drift T ≠ 0) :
    Calls Try.prog 8 #[.slice A l.length c, .int .i64 drift, .int .i64 T] w fun e w' => e = .returned (.tuple #[.agg #[.int .i64 0, .int .i64 0], .int .i64 (offE l drift T)]) ∧ Below w.heap.size w w' := by
  have HX := hide (fun W (h : Rd W A (ps l)) => offsetsBy_bad A c l drift T W h hl he)
  have e1 : (offE l drift T != 0) = true := by simpa using he
  clear he
  generalize offE l drift T = E at HX e1 ⊢
  have hY0 := Blk.new w 31 [.int .i64 0, .int .i64 0]
  have hB0 := alloc_bel w (.cells #[.int .i64 0, .int .i64 0] 31)
  have hr0 := hr.alloc (.cells #[.int .i64 0, .int .i64 0] 31)
  have hz := hY0.lt
  have HW : Hid (w.alloc (.cells #[.int .i64 0, .int .i64 0] 31) = w.alloc (.cells #[.int .i64 0, .int .i64 0] 31)) := rfl
  go_enter Try.func8, Try.ntmps8
  go_wp2_with (first | (go_at_call 17; refine (HX.out _ hr0).mono ?_; rintro e_ w1 ⟨rfl, hb1⟩; have hY1 := hY0.bel hb1; have f0 := hY1.frozen 0; have f1 := hY1.frozen 1; have k0 := hY1.cell 0; have k1 := hY1.cell 1; simp only [List.getElem?_cons_zero, List.getElem?_cons_succ] at k0 k1))
  have hB1 := bel_tr hB0 (by simp) hb1
  obtain ⟨WE, hWE⟩ : ∃ WE, (w1.setCell ⟨w.heap.size, 0, none⟩ (.int .i64 0)).setCell ⟨w.heap.size, 1, none⟩ (.int .i64 0) = WE := ⟨_, rfl⟩
  rw [hWE]
  have hE : Blk WE (w.heap.size) 31 [.int .i64 0, .int .i64 0] := by rw [← hWE]; exact (hY1.set_ 0 _).set_ 1 _
  have hBE : Below w.heap.size w WE := by rw [← hWE]; exact (hB1.setCell (by show w.heap.size ≤ w.heap.size; omega) _).setCell (by show w.heap.size ≤ w.heap.size; omega) _
  clear hWE
  have y0 := hE.cell 0; have y1 := hE.cell 1; simp only [List.getElem?_cons_zero, List.getElem?_cons_succ] at y0 y1
  exact bodyPost_ret (v := .tuple #[.agg #[.int .i64 0, .int .i64 0], .int .i64 E]) (by simp [results, Try.results8, go_sem, y0, y1]; try rfl) rfl ⟨rfl, hBE⟩

set_option maxHeartbeats 2000000 in
theorem offsetAt_ok (A : Option Addr) (c : Nat) (l : List PT) (drift T : Int) (w : World) (hr : Rd w A (ps l)) (hl : l.length ≤ 1000) (he : offE l drift T = 0) :
    Calls Try.prog 8 #[.slice A l.length c, .int .i64 drift, .int .i64 T] w fun e w' => e = .returned (.tuple #[.agg #[.int .i64 (atR l drift T).1.1, .int .i64 (atR l drift T).1.2], .int .i64 (atR l drift T).2]) ∧ Below w.heap.size w w' := by
  have HX := hide (fun W (h : Rd W A (ps l)) => offsetsBy_ok A c l drift T W h hl he)
  have hO := offE_zero he
  have hn0 := hO.n0
  have HR : Hid (atR l drift T = if (comA (offL l drift T)).2 < (comA (offL l drift T)).1 then ((0, 0), 13) else (comA (offL l drift T), 0)) := by show _ = _; unfold atR; rw [if_pos he]
  generalize atR l drift T = R at HR ⊢
  have hLl := offL_length l drift T
  clear he hO
  generalize offL l drift T = L at HX HR hLl
  have HC : Hid (comA L = L.foldl comR (L.headD (0, 0))) := rfl
  have HH : Hid (∀ h : 0 < L.length, L[0] = L.headD (0, 0)) := fun h => by cases L with | nil => simp at h | cons a L => rfl
  generalize comA L = C at HR HC
  generalize L.headD (0, 0) = h0 at HC HH
  have hY0 := Blk.new w 31 [.int .i64 0, .int .i64 0]
  have hB0 := alloc_bel w (.cells #[.int .i64 0, .int .i64 0] 31)
  have hr0 := hr.alloc (.cells #[.int .i64 0, .int .i64 0] 31)
  have hz := hY0.lt
  go_enter Try.func8, Try.ntmps8
  go_upto_region 4 with (first | (go_at_call 17; refine (HX.out _ hr0).mono ?_; rintro e_ w1 ⟨⟨A', c', rfl, hr1⟩, hb1⟩; have hY1 := hY0.bel hb1))
  have hB1 := bel_tr hB0 (by simp) hb1
  have hz1 := hY1.lt
  obtain ⟨b, off, rfl, hblt, x0, x1⟩ := hr1.g_at (show 0 < L.length by omega)
  rw [HH.out (by omega)] at x0 x1
  simp only [Nat.zero_mul, Nat.add_zero] at x0 x1
  have hl0 : 0 < l.length := by omega
  have hl1 : (0 : Int) < (l.length : Int) := by omega
  clear hB0 hr0 hY0 HX hr
  go_upto_region 5 with fail
  obtain ⟨w2, hW2⟩ : ∃ W, w1.alloc (.cells #[.int .i64 h0.1, .int .i64 h0.2] 31) = W := ⟨_, rfl⟩
  have hb2 : Below w1.heap.size w1 w2 := by rw [← hW2]; exact alloc_bel _ _
  have hX2 : Blk w2 w1.heap.size 31 [.int .i64 h0.1, .int .i64 h0.2] := by rw [← hW2]; exact Blk.new w1 _ [_, _]
  rw [hW2]
  clear hW2
  obtain ⟨p, hp⟩ : ∃ p, w1.heap.size = p := ⟨_, rfl⟩
  rw [hp] at hX2 hb2 ⊢
  go_wp2
  go_loopw [29] (fun x wr => ∃ k : Nat, k ≤ L.length ∧ x = .int .i64 k ∧ Below p w1 wr ∧ ∃ o : G, Blk wr p 31 [.int .i64 o.1, .int .i64 o.2] ∧ Hid (o = (L.take k).foldl comR h0)) (fun x _ => L.length - (intOf x).toNat)
  case atStart => exact ⟨0, Nat.zero_le _, rfl, hb2, h0, hX2, rfl⟩
  case round =>
    obtain ⟨k, hk, rfl, hbr, ⟨o1, o2⟩, hX, ho⟩ := hrel
    have hrr := hr1.below hbr (by omega)
    have hsz := hbr.size
    dsimp only at hX
    have hYr := hY1.below hbr (by omega)
    have hzX := hX.lt
    have c0 := hX.cell 0; have c1 := hX.cell 1; simp only [List.getElem?_cons_zero, List.getElem?_cons_succ] at c0 c1
    by_cases hlt : k < L.length
    · obtain ⟨_, x0, x1⟩ := hrr.g_in hlt
      have HF : Hid (comR (o1, o2) L[k] = (L.take (k + 1)).foldl comR h0) := by
        show _ = _
        rw [List.take_succ_eq_append_getElem hlt, List.foldl_append, ← ho.out]; rfl
      have hlt' : k < l.length := by omega
      generalize L[k] = g at x0 x1 HF
      obtain ⟨g1, g2⟩ := g
      dsimp only at x0 x1
      have hXa := hX.bel (alloc_bel wr (.cells #[.int .i64 g1, .int .i64 g2] 31))
      go_wp2_with (first | (go_at_call 18; refine (common_c _ _ _ _ _).mono ?_; rintro e_ w5 ⟨rfl, hb5⟩; have hX5 := hXa.bel hb5; have f0 := hX5.frozen 0; have f1 := hX5.frozen 1; have k0 := hX5.cell 0; have k1 := hX5.cell 1; simp only [List.getElem?_cons_zero, List.getElem?_cons_succ] at k0 k1))
      have hX6 : Blk ((w5.setCell ⟨p, 0, none⟩ (.int .i64 (comR (o1, o2) (g1, g2)).1)).setCell ⟨p, 1, none⟩ (.int .i64 (comR (o1, o2) (g1, g2)).2)) p 31 [.int .i64 (comR (o1, o2) (g1, g2)).1, .int .i64 (comR (o1, o2) (g1, g2)).2] := (hX5.set_ 0 _).set_ 1 _
      have hb6 : Below p w1 w5 := bel_tr (bel_alloc hbr (by omega) (.cells #[.int .i64 g1, .int .i64 g2] 31)) (by simp; omega) hb5
      go_roundw
      case rel => exact ⟨k + 1, by omega, by go_num, (hb6.setCell (by show p ≤ p; omega) _).setCell (by show p ≤ p; omega) _, _, hX6, HF⟩
      case measure => simp [intOf]; omega
    · obtain rfl : k = L.length := by omega
      have HO : Hid (C = (o1, o2)) := by show _ = _; rw [HC.out, ho.out, List.take_of_length_le (by omega)]
      have HR2 : Hid (R = if o2 < o1 then ((0, 0), 13) else ((o1, o2), 0)) := by have := HR.out; rw [HO.out] at this; exact this
      clear HR HO HC ho
      have hBr : Below w.heap.size w wr := hB1.trans (hbr.mono (by have := hB1.size; omega))
      by_cases hlo : o2 < o1
      · have e1 : decide (o2 < o1) = true := decide_eq_true hlo
        have HRR : Hid (R = ((0, 0), 13)) := by have := HR2.out; rwa [if_pos hlo] at this
        clear hlo
        go_wp2_with (first | (go_at_call 19; refine (isEmpty_c _ _ _).mono ?_; rintro e_ w5 ⟨rfl, hb5⟩; have hY5 := hYr.bel hb5; have f0 := hY5.frozen 0; have f1 := hY5.frozen 1; have k0 := hY5.cell 0; have k1 := hY5.cell 1; simp only [List.getElem?_cons_zero, List.getElem?_cons_succ] at k0 k1))
        have hB5 := bel_tr hBr (by have := hBr.size; omega) hb5
        obtain ⟨WE, hWE⟩ : ∃ WE, (w5.setCell ⟨w.heap.size, 0, none⟩ (.int .i64 0)).setCell ⟨w.heap.size, 1, none⟩ (.int .i64 0) = WE := ⟨_, rfl⟩
        rw [hWE]
        have hE : Blk WE (w.heap.size) 31 [.int .i64 0, .int .i64 0] := by rw [← hWE]; exact (hY5.set_ 0 _).set_ 1 _
        have hBE : Below w.heap.size w WE := by rw [← hWE]; exact (hB5.setCell (by show w.heap.size ≤ w.heap.size; omega) _).setCell (by show w.heap.size ≤ w.heap.size; omega) _
        clear hWE
        have y0 := hE.cell 0; have y1 := hE.cell 1; simp only [List.getElem?_cons_zero, List.getElem?_cons_succ] at y0 y1
        exact bodyPost_ret (v := .tuple #[.agg #[.int .i64 0, .int .i64 0], .int .i64 13]) (by simp [results, Try.results8, go_sem, y0, y1]; try rfl) rfl ⟨(by rw [HRR.out]), hBE⟩
      · have e1 : decide (o2 < o1) = false := decide_eq_false hlo
        have HRR : Hid (R = ((o1, o2), 0)) := by have := HR2.out; rwa [if_neg hlo] at this
        clear hlo
        go_wp2_with (first | (go_at_call 19; refine (isEmpty_c _ _ _).mono ?_; rintro e_ w5 ⟨rfl, hb5⟩; have hX5 := hX.bel hb5; have g0 := hX5.cell 0; have g1 := hX5.cell 1; simp only [List.getElem?_cons_zero, List.getElem?_cons_succ] at g0 g1; have hY5 := hYr.bel hb5; have f0 := hY5.frozen 0; have f1 := hY5.frozen 1; have k0 := hY5.cell 0; have k1 := hY5.cell 1; simp only [List.getElem?_cons_zero, List.getElem?_cons_succ] at k0 k1))
        have hB5 := bel_tr hBr (by have := hBr.size; omega) hb5
        obtain ⟨WE, hWE⟩ : ∃ WE, (w5.setCell ⟨w.heap.size, 0, none⟩ (.int .i64 o1)).setCell ⟨w.heap.size, 1, none⟩ (.int .i64 o2) = WE := ⟨_, rfl⟩
        rw [hWE]
        have hE : Blk WE (w.heap.size) 31 [.int .i64 o1, .int .i64 o2] := by rw [← hWE]; exact (hY5.set_ 0 _).set_ 1 _
        have hBE : Below w.heap.size w WE := by rw [← hWE]; exact (hB5.setCell (by show w.heap.size ≤ w.heap.size; omega) _).setCell (by show w.heap.size ≤ w.heap.size; omega) _
        clear hWE
        have y0 := hE.cell 0; have y1 := hE.cell 1; simp only [List.getElem?_cons_zero, List.getElem?_cons_succ] at y0 y1
        exact bodyPost_ret (v := .tuple #[.agg #[.int .i64 o1, .int .i64 o2], .int .i64 0]) (by simp [results, Try.results8, go_sem, y0, y1]; try rfl) rfl ⟨(by rw [HRR.out]), hBE⟩

theorem offsetAt_c (A : Option Addr) (c : Nat) (l : List PT) (drift T : Int) (w : World) (hr : Rd w A (ps l)) (hl : l.length ≤ 1000) :
    Calls Try.prog 8 #[.slice A l.length c, .int .i64 drift, .int .i64 T] w fun e w' => e = .returned (.tuple #[.agg #[.int .i64 (atR l drift T).1.1, .int .i64 (atR l drift T).1.2], .int .i64 (atR l drift T).2]) ∧ Below w.heap.size w w' := by
  by_cases he : offE l drift T = 0
  · exact offsetAt_ok A c l drift T w hr hl he
  · have := offsetAt_bad A c l drift T w hr hl he
    have hR : atR l drift T = ((0, 0), offE l drift T) := by unfold atR; rw [if_neg he]
    rw [hR]
    exact this
/-- What an offset is at most. -/
theorem offV_bd {x : PT} {drift T : Int} (hx : exE x = 0) (hd : driftE drift = 0) (hT : tickE T = 0) : -2000000000000001 ≤ (offV x drift T).1 ∧ (offV x drift T).1 ≤ 1000000000000 ∧ -1000000000000 ≤ (offV x drift T).2 ∧ (offV x drift T).2 ≤ 2000000000000001 := by
  obtain ⟨⟨s0, s1⟩, ⟨t0, t1⟩, ⟨r0, r1⟩, hsr⟩ := exE_zero hx
  obtain ⟨d0, d1⟩ := driftE_zero hd
  obtain ⟨T0, T1⟩ := tickE_zero hT
  have hf := farE_bd ⟨s0, s1⟩ ⟨r0, r1⟩ ⟨T0, T1⟩
  have hm := mul_bd d0 d1 hf.1 hf.2
  have h1 := (upD_bd hm.1 (show (1 : Int) ≤ 1000 by omega)).1
  have h2 : upD (drift * farE x.1 x.2.2 T) 1000 ≤ 1000000000000 := by
    unfold upD
    have h3 : drift * farE x.1 x.2.2 T + 1000 - 1 < (1000000000000 + 1) * 1000 := by omega
    have := Int.ediv_lt_of_lt_mul (by omega : (0 : Int) < 1000) h3
    omega
  unfold offV
  dsimp only
  omega
theorem comR_bd {a b : G} {m : Int} (ha : -m ≤ a.1 ∧ a.1 ≤ m ∧ -m ≤ a.2 ∧ a.2 ≤ m) (hb : -m ≤ b.1 ∧ b.1 ≤ m ∧ -m ≤ b.2 ∧ b.2 ≤ m) : -m ≤ (comR a b).1 ∧ (comR a b).1 ≤ m ∧ -m ≤ (comR a b).2 ∧ (comR a b).2 ≤ m := by
  unfold comR; dsimp only; omega
theorem foldl_bd {m : Int} (L : List G) (a : G) (ha : -m ≤ a.1 ∧ a.1 ≤ m ∧ -m ≤ a.2 ∧ a.2 ≤ m) (h : ∀ g ∈ L, -m ≤ g.1 ∧ g.1 ≤ m ∧ -m ≤ g.2 ∧ g.2 ≤ m) : -m ≤ (L.foldl comR a).1 ∧ (L.foldl comR a).1 ≤ m ∧ -m ≤ (L.foldl comR a).2 ∧ (L.foldl comR a).2 ≤ m := by
  induction L generalizing a with
  | nil => exact ha
  | cons g L ih => exact ih _ (comR_bd ha (h g (by simp))) fun x hx => h x (by simp [hx])
theorem atR_bd (l : List PT) (drift T : Int) : -2000000000000001 ≤ (atR l drift T).1.1 ∧ (atR l drift T).1.1 ≤ 2000000000000001 ∧ -2000000000000001 ≤ (atR l drift T).1.2 ∧ (atR l drift T).1.2 ≤ 2000000000000001 := by
  unfold atR
  split
  · rename_i he
    split
    · simp
    · have hO := offE_zero he
      have hb : ∀ g ∈ offL l drift T, -2000000000000001 ≤ g.1 ∧ g.1 ≤ 2000000000000001 ∧ -2000000000000001 ≤ g.2 ∧ g.2 ≤ 2000000000000001 := fun g hg => by
        obtain ⟨x, hx, rfl⟩ := List.mem_map.1 hg
        obtain ⟨k, hk, rfl⟩ := List.getElem_of_mem hx
        have := offV_bd (hO.ex k hk) hO.d hO.t
        omega
      refine foldl_bd _ _ ?_ hb
      cases hL : offL l drift T with
      | nil => simp
      | cons a L => exact hb a (by rw [hL]; simp)
  · simp

/-- The answer of OffsetBy. -/
def byE (x : PT) (drift T : Int) : Int := firstE [exE x, driftE drift, tickE T]
def byR (x : PT) (drift T : Int) : G × Int := if byE x drift T = 0 then (offV x drift T, 0) else ((0, 0), byE x drift T)
/-- The answer of TrueAt. -/
def trueR (l : List PT) (drift T : Int) : G × Int := if (atR l drift T).2 = 0 then ((T + (atR l drift T).1.1, T + (atR l drift T).1.2), 0) else ((0, 0), (atR l drift T).2)
end Go.Proofs.Ytnjdkdmfeonabaa
