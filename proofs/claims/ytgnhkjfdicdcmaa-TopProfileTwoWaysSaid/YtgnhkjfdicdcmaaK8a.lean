/- Two ways: both are laminated. -/
import Derived.Test.YtgnhkjfdicdcmaaK8
namespace Go.Proofs.Ytgnhkjfdicdcmaa
open Go.RowKit
set_option maxRecDepth 100000

set_option maxHeartbeats 20000000 in
theorem twoWaysA_c (A : Option Addr) (c : Nat) (after width cut up : Int) (l : List PT) (w : World) (hr : Rd w A (ps l)) (hc1 : -9223372036854775808 ≤ cut) (hc2 : cut ≤ 9223372036854775807) (hu1 : -9223372036854775808 ≤ up) (hu2 : up ≤ 9223372036854775807) (h8 : l.length ≤ 8) (h1 : (trE l after width).2 = 0) (nn : Nat) (hnn : 1 + cut % (l.length : Int) = nn) (gp : (lam l after width (nn - 1)).2 = 0) (gl : (lam l after width (l.length - 1)).2 = 0) :
    Calls Try.prog 14 #[.agg #[.slice A l.length c, .int .i64 after, .int .i64 width], .int .i64 cut, .int .i64 up] w fun r w' => r = .returned (.bool true) ∧ Below w.heap.size w w' := by
  obtain ⟨W0, hW0⟩ : ∃ W0, w.alloc (.cells #[.slice A l.length c, .int .i64 after, .int .i64 width] 73) = W0 := ⟨_, rfl⟩
  obtain ⟨p, hp⟩ : ∃ p, w.heap.size = p := ⟨_, rfl⟩
  have hX0 : Blk W0 p 73 [.slice A l.length c, .int .i64 after, .int .i64 width] := by rw [← hW0, ← hp]; exact Blk.new w _ [_, _, _]
  have HB0 : Below p w W0 := by rw [← hW0, ← hp]; exact alloc_bel w _
  have hr0 := hr.bel (by rw [hp]; exact HB0)
  have HW := hide hW0
  clear hW0
  have c0 := hX0.cell 0; have c1 := hX0.cell 1; have c2 := hX0.cell 2; simp only [List.getElem?_cons_zero, List.getElem?_cons_succ] at c0 c1 c2
  have z0 := hX0.lt
  have e8 : decide (8 < (l.length : Int)) = false := decide_eq_false (by omega)
  have hl : l.length ≤ 1000 := by omega
  have HTE := hide (fun W h => refTraceErr_c A c after width l W h hl)
  have hT := trE_zero h1
  rw [h1] at HTE
  clear h1
  have hn0 := hT.n0
  have hm0 := Int.emod_nonneg cut (show (l.length : Int) ≠ 0 by omega)
  have hm1 := Int.emod_lt_of_pos cut (show 0 < (l.length : Int) by omega)
  have HMC := hide (fun W => mod_c cut (l.length : Int) W (by omega) (by omega) hc1 hc2)
  have HMU := hide (fun W => mod_c up 1000 W (by omega) (by omega) hu1 hu2)
  have hnn1 : 1 ≤ nn := by omega
  have hnn2 : nn ≤ l.length := by omega
  have u1 : IntKind.i64.wrap (1 + cut % (l.length : Int)) = (nn : Int) := by rw [← hnn]; simp (disch := omega) only [IntWalk.i64_in]
  have ua0 := Int.emod_nonneg up (show (1000 : Int) ≠ 0 by omega)
  have ua1 := Int.emod_lt_of_pos up (show 0 < (1000 : Int) by omega)
  have ha0 := hT.a0
  have ha1 := hT.a1
  have hw0 := hT.w0
  have hw1 := hT.w1
  obtain ⟨uu, huu⟩ : ∃ u, up % 1000 = u := ⟨_, rfl⟩
  rw [huu] at HMU ua0 ua1
  clear huu
  have HTM := hide (fun A c W (h : Rd W A (ps (movedT uu l))) => refTraceErr_c A c after width (movedT uu l) W h (by simpa using hl))
  have HCM := hide (fun A c W (h : Rd W A (ps (movedT uu l))) => copyTrace_c A c after width (movedT uu l) W h (by simpa using hl))
  rw [movedT_length] at HTM HCM
  generalize cut % (l.length : Int) = cm at HMC hm0 hm1 hnn u1
  have HNN := hide hnn
  clear hnn
  have HLP0 := hide (lamPart_c hT hnn1 hnn2)
  have hLn := lam_length gl
  have hTh := lam_thick hT (k := l.length - 1) (by omega)
  have hOr := lam_ord hT (k := l.length - 1) (by omega)
  have hPn := lam_length gp
  have htk := lam_take gl (show nn - 1 ≤ l.length - 1 by omega)
  have HLT : Hid (∀ (A : Option Addr) (c : Nat) W, Rd W A (ps l) → Calls Try.prog 53 #[.agg #[.slice A l.length c, .int .i64 after, .int .i64 width]] W fun r w' => (∃ A c, l.length - 1 ≤ c ∧ r = .returned (.tuple #[.slice A (l.length - 1) c, .int .i64 0, .int .i64 0]) ∧ Rd w' A (gs (lam l after width (l.length - 1)).1)) ∧ Below W.heap.size W w') := fun A c W h => (laminatedAllCap_ok A c after width l W h hT).mono fun r w' hx => by
    obtain ⟨h, hb⟩ := hx
    rcases h with ⟨_, a, b, hc, e, h⟩ | ⟨h, _⟩
    · exact ⟨⟨a, b, hc, e, h.1⟩, hb⟩
    · exact absurd gl h
  have HLP : Hid (∀ (A : Option Addr) (c : Nat) W, Rd W A (ps (l.take nn)) → Calls Try.prog 53 #[.agg #[.slice A nn c, .int .i64 (min after ((nn : Int) - 1)), .int .i64 width]] W fun r w' => (∃ A c, nn - 1 ≤ c ∧ r = .returned (.tuple #[.slice A (nn - 1) c, .int .i64 0, .int .i64 0]) ∧ Rd w' A (gs (lam l after width (nn - 1)).1)) ∧ Below W.heap.size W w') := fun A c W h => (HLP0.out A c W h).mono fun r w' hx => by
    obtain ⟨h, hb⟩ := hx
    rcases h with ⟨_, h⟩ | ⟨h, _⟩
    · exact ⟨h, hb⟩
    · exact absurd gp h
  have HLM0 : Hid (Tr (movedT uu l) after width → ∀ (A : Option Addr) (c : Nat) W, Rd W A (ps (movedT uu l)) → Calls Try.prog 53 #[.agg #[.slice A l.length c, .int .i64 after, .int .i64 width]] W fun r w' => (∃ A c, r = .returned (.tuple #[.slice A (l.length - 1) c, .int .i64 0, .int .i64 0]) ∧ Rd w' A (gs (lam l after width (l.length - 1)).1)) ∧ Below W.heap.size W w') := fun hM A c W h => (lamMoved_c hT hM A c W h).mono fun r w' hx => by
    obtain ⟨h, hb⟩ := hx
    rcases h with ⟨_, h⟩ | ⟨h, _⟩
    · exact ⟨h, hb⟩
    · exact absurd gl h
  have HHE := hide (fun A c W h => heightsOf_ok A c after width l W h hT gl)
  have HHM0 := hide (fun (hM : Tr (movedT uu l) after width) A c W h => heightsMoved_c hT hM gl A c W h)
  have HPT : Hid (∀ k (h : k < (hts l after width (lam l after width (l.length - 1)).1 l.length).length), 0 ≤ (hts l after width (lam l after width (l.length - 1)).1 l.length)[k].1 ∧ (hts l after width (lam l after width (l.length - 1)).1 l.length)[k].1 ≤ (hts l after width (lam l after width (l.length - 1)).1 l.length)[k].2 ∧ (hts l after width (lam l after width (l.length - 1)).1 l.length)[k].2 ≤ 400000) := by
    intro k h
    have hk : k < l.length := by simpa using h
    rw [hts_get l after width _ hk]
    have h1 := htL_bd hT hTh (k := k) (by omega)
    have h2 := htL_ord hT hOr k
    omega
  have hHl : (hts l after width (lam l after width (l.length - 1)).1 l.length).length = l.length := hts_length _ _ _ _ _
  obtain ⟨LL, hLL⟩ : ∃ LL, (lam l after width (l.length - 1)).1 = LL := ⟨_, rfl⟩
  rw [hLL] at hLn HLT HLM0 HHE HHM0 HPT htk hHl
  rw [← htk] at HLP hPn
  have HRG1 := hide (fun A B c d W h h' => ranges_c (LL.take (nn - 1)) (LL.take (nn - 1)) A B c d W h h' (by omega))
  have HRG2 := hide (fun A B c d W h h' => ranges_c LL LL A B c d W h h' (by omega))
  rw [decide_eq_true rfl, hPn] at HRG1
  rw [decide_eq_true rfl, hLn] at HRG2
  obtain ⟨HT, hHT⟩ : ∃ HT, hts l after width LL l.length = HT := ⟨_, rfl⟩
  rw [hHT] at HHE HHM0 HPT hHl
  have em : (((nn - 1 : Nat) : Int) != (nn : Int) - 1) = false := by simp; omega
  have em2 : (((l.length - 1 : Nat) : Int) != (l.length : Int) - 1) = false := by simp; omega
  have en1 : ((nn : Int) - 1).toNat = nn - 1 := by omega
  have hHl1 : HT.length ≤ l.length := by omega
  have hHl2 : l.length ≤ HT.length := by omega
  clear hLL htk hPn hLn hTh hOr gp gl HLP0 hHT hHl
  go_enter Try.func14, Try.ntmps14
  go_upto_region 1 with fail
  rw [HW.out]
  go_upto_region 6 with (first
    | (go_at_call 66; refine (profileAwake_c _).mono ?_; rintro e w1 ⟨rfl, hb1⟩; have hX1 := hX0.bel hb1; have hr1 := hr0.bel hb1; have HB1 := bel_tr HB0 (by omega) hb1; have d0 := hX1.cell 0; have d1 := hX1.cell 1; have d2 := hX1.cell 2; simp only [List.getElem?_cons_zero, List.getElem?_cons_succ] at d0 d1 d2; have zd := hX1.lt)
    | (go_at_call 60; refine (HTE.out _ hr1).mono ?_; rintro e w2 ⟨rfl, hb2⟩; have hX2 := hX1.bel hb2; have hr2 := hr1.bel hb2; have HB2 := bel_tr HB1 (by have := HB1.size; omega) hb2; have f0 := hX2.cell 0; have f1 := hX2.cell 1; have f2 := hX2.cell 2; simp only [List.getElem?_cons_zero, List.getElem?_cons_succ] at f0 f1 f2; have zf := hX2.lt)
    | (go_at_call 67; refine (HMC.out _).mono ?_; rintro e_ w_ ⟨rfl, rfl⟩))
  clear c0 c1 c2 d0 d1 d2 zd z0 hX0 hX1 hr0 hr1 hb1 hb2 HB1
  go_upto_region 7 with (first | (go_at_call 52; refine (copyTraceOwn_c A c after width l _ hr2 hl).mono ?_; rintro e w3 ⟨⟨vv, rfl, hown3⟩, hb3⟩; obtain ⟨rg, rc, rfl, hrg, hrl⟩ := World.ownsRow.form hown3 (by omega)))
  have hcap := own_cap hown3
  have hX3 := hX2.bel hb3
  have HB3 := bel_tr HB2 (by have := HB2.size; omega) hb3
  obtain ⟨pb, hpb⟩ : ∃ pb, w3.heap.size = pb := ⟨_, rfl⟩
  obtain ⟨W4, hW4⟩ : ∃ W, w3.alloc (.cells #[.slice (some ⟨rg, 0, none⟩) l.length rc, .int .i64 after, .int .i64 width] 73) = W := ⟨_, rfl⟩
  have hb4 : Below w3.heap.size w3 W4 := by rw [← hW4]; exact alloc_bel _ _
  have hQ4 : Blk W4 pb 73 [.slice (some ⟨rg, 0, none⟩) l.length rc, .int .i64 after, .int .i64 width] := by rw [← hW4, ← hpb]; exact Blk.new w3 _ [_, _, _]
  have hX4 := hX3.bel hb4
  have hown4 := ownsRow_bel hown3 hb4
  have HB4 := bel_tr HB3 (by have := HB3.size; omega) hb4
  have zx3 := hX3.lt
  try rw [hpb]
  rw [hW4]
  have hrpb : rg < pb := by omega
  have hppb : p < pb := by omega
  clear hW4 hX2 hX3 f0 f1 f2 zf hown3 hb3 hb4 hpb hrl hr2 HB2 HB3
  have d0 := hX4.cell 0; have d1 := hX4.cell 1; have d2 := hX4.cell 2; simp only [List.getElem?_cons_zero, List.getElem?_cons_succ] at d0 d1 d2
  have f0 := hQ4.cell 0; have f1 := hQ4.cell 1; have f2 := hQ4.cell 2; simp only [List.getElem?_cons_zero, List.getElem?_cons_succ] at f0 f1 f2
  have ff0 := hQ4.frozen 0
  have ff1 := hQ4.frozen 1
  have zd := hX4.lt
  have zf := hQ4.lt
  go_upto_region 9 with fail
  have emn : (if (nn : Int) - 1 < after then (nn : Int) - 1 else after) = min after ((nn : Int) - 1) := by rw [Int.min_def]; split <;> split <;> omega
  rw [emn]
  clear emn
  generalize min after ((nn : Int) - 1) = a2 at HLP ⊢
  obtain ⟨W5, hW5⟩ : ∃ W, (W4.setCell ⟨pb, 0, none⟩ (.slice (some ⟨rg, 0, none⟩) nn rc)).setCell ⟨pb, 1, none⟩ (.int .i64 a2) = W := ⟨_, rfl⟩
  have hX5 : Blk W5 p 73 [.slice A l.length c, .int .i64 after, .int .i64 width] := by rw [← hW5]; exact (hX4.far (by show p ≠ pb; omega) _).far (by show p ≠ pb; omega) _
  have hQ5 : Blk W5 pb 73 [.slice (some ⟨rg, 0, none⟩) nn rc, .int .i64 a2, .int .i64 width] := by rw [← hW5]; exact (hQ4.set_ 0 _).set_ 1 _
  have hown5 := own_ne' (own_ne' hown4 (p := ⟨pb, 0, none⟩) (by show rg ≠ pb; omega) (.slice (some ⟨rg, 0, none⟩) nn rc)) (p := ⟨pb, 1, none⟩) (by show rg ≠ pb; omega) (.int .i64 a2)
  rw [hW5] at hown5
  have hrP5 := (Rd.of_own hown5).ps_take nn
  have HB5 : Below p w W5 := by rw [← hW5]; exact (HB4.setCell (by show p ≤ pb; omega) _).setCell (by show p ≤ pb; omega) _
  have hr5 := hr.below HB5 (by omega)
  rw [hW5]
  have HCP := hide (fun W h => copyPart_c hnn2 hl (some ⟨rg, 0, none⟩) rc a2 width W h)
  clear hW5 d0 d1 d2 f0 f1 f2 ff0 ff1 zd zf hX4 hQ4 hown4 hown5 HB4 hcap
  have d0 := hX5.cell 0; have d1 := hX5.cell 1; have d2 := hX5.cell 2; simp only [List.getElem?_cons_zero, List.getElem?_cons_succ] at d0 d1 d2
  have f0 := hQ5.cell 0; have f1 := hQ5.cell 1; have f2 := hQ5.cell 2; simp only [List.getElem?_cons_zero, List.getElem?_cons_succ] at f0 f1 f2
  have zd := hX5.lt
  have zf := hQ5.lt
  go_upto_region 10 with (first
    | (go_at_call 52; refine (copyTrace_c A c after width l _ hr5 hl).mono ?_; rintro e wa ⟨⟨Aa, qa, rfl, hra⟩, hba⟩)
    | (go_at_call 53; refine (HLT.out Aa qa _ hra).mono ?_; rintro e w6 ⟨⟨LA, lc, hlc, rfl, hL6⟩, hb6⟩))
  replace hb6 := tr hba hb6 hba.size
  have hX6 := hX5.bel hb6
  have hQ6 := hQ5.bel hb6
  have hrP6 := hrP5.bel hb6
  have hr6 := hr5.bel hb6
  have HB6 := bel_tr HB5 (by have := HB5.size; omega) hb6
  clear d0 d1 d2 f0 f1 f2 zd zf hX5 hQ5 hrP5 hr5 HB5 hba hra hb6
  have d0 := hX6.cell 0; have d1 := hX6.cell 1; have d2 := hX6.cell 2; simp only [List.getElem?_cons_zero, List.getElem?_cons_succ] at d0 d1 d2
  have f0 := hQ6.cell 0; have f1 := hQ6.cell 1; have f2 := hQ6.cell 2; simp only [List.getElem?_cons_zero, List.getElem?_cons_succ] at f0 f1 f2
  have zd := hX6.lt
  have zf := hQ6.lt
  go_upto_region 11 with (first
    | (go_at_call 52; refine (HCP.out _ hrP6).mono ?_; rintro e wa ⟨⟨Aa, qa, rfl, hra⟩, hba⟩)
    | (go_at_call 53; refine (HLP.out Aa qa _ hra).mono ?_; rintro e w7 ⟨⟨PA, pc, hpc, rfl, hP7⟩, hb7⟩))
  replace hb7 := tr hba hb7 hba.size
  have hX7 := hX6.bel hb7
  have hr7 := hr6.bel hb7
  have HB7 := bel_tr HB6 (by have := HB6.size; omega) hb7
  have hL7 := hL6.bel hb7
  clear d0 d1 d2 f0 f1 f2 zd zf hX6 hQ6 hrP6 hr6 HB6 hba hra hb7
  have d0 := hX7.cell 0; have d1 := hX7.cell 1; have d2 := hX7.cell 2; simp only [List.getElem?_cons_zero, List.getElem?_cons_succ] at d0 d1 d2
  have zd := hX7.lt
  go_upto_region 19 with (first | (go_at_call 57; refine (HRG1.out _ _ _ _ _ hP7 (hL7.gs_take _)).mono ?_; rintro e w8 ⟨rfl, hb8⟩))
  have hXs := hX7.bel hb8
  have hrs := hr7.bel hb8
  have hLs := hL7.bel hb8
  have HBs := bel_tr HB7 (by have := HB7.size; omega) hb8
  clear d0 d1 d2 zd hX7 hr7 hL7 hP7 HB7 hb8 em em2 en1
  obtain ⟨ws, rfl⟩ : ∃ ws : World, ws = w8 := ⟨_, rfl⟩
  have d0 := hXs.cell 0; have d1 := hXs.cell 1; have d2 := hXs.cell 2; simp only [List.getElem?_cons_zero, List.getElem?_cons_succ] at d0 d1 d2
  have zd := hXs.lt
  go_upto_region 21 with (first
    | (go_at_call 67; refine (HMU.out _).mono ?_; rintro e_ w_ ⟨rfl, rfl⟩)
    | (go_at_call 52; refine (copyTraceOwn_c A c after width l _ hrs hl).mono ?_; rintro e w9 ⟨⟨vv, rfl, hown9⟩, hb9⟩; obtain ⟨mg, mc, rfl, hmg, hml⟩ := World.ownsRow.form hown9 (by omega)))
  obtain ⟨bm, hbm⟩ : ∃ bm, w9.heap.size = bm := ⟨_, rfl⟩
  obtain ⟨V, hV⟩ : ∃ W, w9.alloc (.cells #[.slice (some ⟨mg, 0, none⟩) l.length mc, .int .i64 after, .int .i64 width] 73) = W := ⟨_, rfl⟩
  have hbV : Below w9.heap.size w9 V := by rw [← hV]; exact alloc_bel _ _
  have hMV : Blk V bm 73 [.slice (some ⟨mg, 0, none⟩) l.length mc, .int .i64 after, .int .i64 width] := by rw [← hV, ← hbm]; exact Blk.new w9 _ [_, _, _]
  have hownV := ownsRow_bel hown9 hbV
  have hbsV := tr hb9 hbV hb9.size
  try rw [hbm]
  rw [hV]
  obtain ⟨q, hq⟩ : ∃ q, ws.heap.size = q := ⟨_, rfl⟩
  rw [hq] at hownV hmg
  have hbsq : Below q ws V := by rw [← hq]; exact hbsV
  have hgb : mg < bm := by omega
  have hqs : ws.heap.size ≤ q := by omega
  have hqp : p < q := by have := hXs.lt; omega
  have hqb : q ≤ bm := by have := hb9.size; omega
  have HPS := hide (fun k (hk : k < l.length) => hT.pt k hk)
  have hfst : ∀ k (hk : k < l.length), (l[k].1, l[k].2.1, l[k].2.2) = l[k] := fun _ _ => rfl
  clear hV d0 d1 d2 zd hb9 hbV hown9 hbsV hbm hml hq
  go_wp2
  go_loopw [16] (fun x wr => ∃ k : Nat, k ≤ l.length ∧ x = .int .i64 k ∧ Below q ws wr ∧ Blk wr bm 73 [.slice (some ⟨mg, 0, none⟩) l.length mc, .int .i64 after, .int .i64 width] ∧ wr.ownsRow q 99 3 (.slice (some ⟨mg, 0, none⟩) l.length mc) l.length (ps (mixT uu l k))) (fun x _ => l.length - (intOf x).toNat)
  case atStart => exact ⟨0, Nat.zero_le _, rfl, hbsq, hMV, by rw [mixT_zero]; exact hownV⟩
  case round =>
    obtain ⟨k, hk, rfl, hbr, hMr, hownr⟩ := hrel
    have m0 := hMr.cell 0; have m1 := hMr.cell 1; have m2 := hMr.cell 2; simp only [List.getElem?_cons_zero, List.getElem?_cons_succ] at m0 m1 m2
    have zm := hMr.lt
    by_cases hlt : k < l.length
    · have hmx : k < (mixT uu l k).length := by simpa using hlt
      obtain ⟨gj0, gj1, gj2⟩ := ps_at hmx
      rw [mixT_at uu hlt] at gj1 gj2
      have y1 := (hownr.cellAt (k * 3 + 1) (by omega)).trans gj1
      have y2 := (hownr.cellAt (k * 3 + 2) (by omega)).trans gj2
      have yf1 := hownr.frozenAt (k * 3 + 1)
      have yf2 := hownr.frozenAt (k * 3 + 2)
      have HST : Hid (∀ a b : Int, a = l[k].2.1 + uu → b = l[k].2.2 + uu → ((ps (mixT uu l k)).set (k * 3 + 1) (.int .i64 a)).set (k * 3 + 2) (.int .i64 b) = ps (mixT uu l (k + 1))) := by
        rintro a b rfl rfl
        rw [ps_set2 hmx, mixT_step uu hlt, mixT_at uu hlt]
        rfl
      have hpk := HPS.out k hlt
      unfold plo phi at hpk
      rw [getD_at hlt] at hpk
      clear gj0 gj1 gj2 hmx
      generalize l[k].2.1 = lo at y1 HST hpk
      generalize l[k].2.2 = hi at y2 HST hpk
      have v1 : IntKind.i64.wrap (lo + uu) = lo + uu := by simp (disch := omega) only [IntWalk.i64_in]
      have v2 : IntKind.i64.wrap (hi + uu) = hi + uu := by simp (disch := omega) only [IntWalk.i64_in]
      have hkI : (k : Int) < (l.length : Int) := by omega
      have zg : mg < wr.heap.size := by omega
      go_upto_region 24 with fail
      refine wp_region_M (fun w' => (∀ b o, b < wr.heap.size → w'.cell? ⟨b, o, none⟩ = wr.cell? ⟨b, o, none⟩) ∧ Below wr.heap.size wr w') 15 (by kernel_rfl) ?_
      have hSd : (∀ b o, b < wr.heap.size → wr.drew.cell? ⟨b, o, none⟩ = wr.cell? ⟨b, o, none⟩) ∧ Below wr.heap.size wr wr.drew := kp (Below.refl _ _).drew
      refine AnyM.take (i := 0) (v := ?_) rfl (by kernel_rfl) (by kernel_rfl) (by kernel_rfl) (by kernel_rfl) (fun _ _ _ h => h) (Or.inl ⟨by rfl, ?_⟩) (by assumption) ?_
      rotate_left 1
      · (intro w hSw; obtain ⟨hk1, hk2⟩ := hSw; go_simp <;> with_reducible rfl)
      simp only [Act.put, List.getElem_toArray, List.getElem_cons_zero, List.setIfInBounds_toArray, List.set_cons_zero, List.set_cons_succ]
      refine AnyM.take (i := 1) (v := ?_) rfl (by kernel_rfl) (by kernel_rfl) (by kernel_rfl) (by kernel_rfl) (fun _ _ _ h => h) (Or.inl ⟨by rfl, ?_⟩) (by assumption) ?_
      rotate_left 1
      · (intro w hSw; obtain ⟨hk1, hk2⟩ := hSw; go_simp <;> with_reducible rfl)
      simp only [Act.put, List.getElem_toArray, List.getElem_cons_zero, List.getElem_cons_succ, List.setIfInBounds_toArray, List.set_cons_zero, List.set_cons_succ]
      refine AnyM.take (i := 2) (v := ?_) rfl (by kernel_rfl) (by kernel_rfl) (by kernel_rfl) (by kernel_rfl) (fun _ _ _ h => h) (Or.inl ⟨by rfl, ?_⟩) (by assumption) ?_
      rotate_left 1
      · (intro w hSw; obtain ⟨hk1, hk2⟩ := hSw; go_simp <;> with_reducible rfl)
      simp only [Act.put, List.getElem_toArray, List.getElem_cons_zero, List.getElem_cons_succ, List.setIfInBounds_toArray, List.set_cons_zero, List.set_cons_succ]
      refine AnyM.take (i := 3) (v := ?_) rfl (by kernel_rfl) (by kernel_rfl) (by kernel_rfl) (by kernel_rfl) (fun _ _ _ h => h) (Or.inl ⟨by rfl, ?_⟩) (by assumption) ?_
      rotate_left 1
      · (intro w hSw; obtain ⟨hk1, hk2⟩ := hSw; go_simp <;> with_reducible rfl)
      simp only [Act.put, List.getElem_toArray, List.getElem_cons_zero, List.getElem_cons_succ, List.setIfInBounds_toArray, List.set_cons_zero, List.set_cons_succ]
      refine AnyM.take (i := 4) (v := ?_) rfl (by kernel_rfl) (by kernel_rfl) (by kernel_rfl) (by kernel_rfl) (fun _ _ _ h => h) (Or.inl ⟨by rfl, ?_⟩) (by assumption) ?_
      rotate_left 1
      · (intro w hSw; obtain ⟨hk1, hk2⟩ := hSw; go_simp <;> with_reducible rfl)
      simp only [Act.put, List.getElem_toArray, List.getElem_cons_zero, List.getElem_cons_succ, List.setIfInBounds_toArray, List.set_cons_zero, List.set_cons_succ]
      refine AnyM.take (i := 5) (v := ?_) rfl (by kernel_rfl) (by kernel_rfl) (by kernel_rfl) (by kernel_rfl) (fun _ _ _ h => h) (Or.inl ⟨by rfl, ?_⟩) (by assumption) ?_
      rotate_left 1
      · (intro w hSw; obtain ⟨hk1, hk2⟩ := hSw; go_simp <;> with_reducible rfl)
      simp only [Act.put, List.getElem_toArray, List.getElem_cons_zero, List.getElem_cons_succ, List.setIfInBounds_toArray, List.set_cons_zero, List.set_cons_succ]
      refine AnyM.take (i := 6) (v := ?_) rfl (by kernel_rfl) (by kernel_rfl) (by kernel_rfl) (by kernel_rfl) (fun _ _ _ h => h) (Or.inl ⟨by rfl, ?_⟩) (by assumption) ?_
      rotate_left 1
      · (intro w hSw; obtain ⟨hk1, hk2⟩ := hSw; go_simp <;> with_reducible rfl)
      simp only [Act.put, List.getElem_toArray, List.getElem_cons_zero, List.getElem_cons_succ, List.setIfInBounds_toArray, List.set_cons_zero, List.set_cons_succ]
      refine AnyM.take (i := 7) (v := ?_) rfl (by kernel_rfl) (by kernel_rfl) (by kernel_rfl) (by kernel_rfl) (fun _ _ _ h => h) (Or.inl ⟨by rfl, ?_⟩) (by assumption) ?_
      rotate_left 1
      · (intro w hSw; obtain ⟨hk1, hk2⟩ := hSw; go_simp <;> with_reducible rfl)
      simp only [Act.put, List.getElem_toArray, List.getElem_cons_zero, List.getElem_cons_succ, List.setIfInBounds_toArray, List.set_cons_zero, List.set_cons_succ]
      refine AnyM.take (i := 8) (v := ?_) rfl (by kernel_rfl) (by kernel_rfl) (by kernel_rfl) (by kernel_rfl) (fun _ _ _ h => h) (Or.inl ⟨by rfl, ?_⟩) (by assumption) ?_
      rotate_left 1
      · (intro w hSw; obtain ⟨hk1, hk2⟩ := hSw; go_simp <;> with_reducible rfl)
      simp only [Act.put, List.getElem_toArray, List.getElem_cons_zero, List.getElem_cons_succ, List.setIfInBounds_toArray, List.set_cons_zero, List.set_cons_succ]
      refine AnyM.take (i := 9) (v := ?_) rfl (by kernel_rfl) (by kernel_rfl) (by kernel_rfl) (by kernel_rfl) (fun _ _ _ h => h) (Or.inl ⟨by rfl, ?_⟩) (by assumption) ?_
      rotate_left 1
      · (intro w hSw; obtain ⟨hk1, hk2⟩ := hSw; go_simp <;> with_reducible rfl)
      simp only [Act.put, List.getElem_toArray, List.getElem_cons_zero, List.getElem_cons_succ, List.setIfInBounds_toArray, List.set_cons_zero, List.set_cons_succ]
      refine AnyM.take (i := 10) (v := ?_) rfl (by kernel_rfl) (by kernel_rfl) (by kernel_rfl) (by kernel_rfl) (fun _ _ _ h => h) (Or.inl ⟨by rfl, ?_⟩) (by assumption) ?_
      rotate_left 1
      · (intro w hSw; obtain ⟨hk1, hk2⟩ := hSw; go_simp <;> with_reducible rfl)
      simp only [Act.put, List.getElem_toArray, List.getElem_cons_zero, List.getElem_cons_succ, List.setIfInBounds_toArray, List.set_cons_zero, List.set_cons_succ]
      refine AnyM.take (i := 11) (v := ?_) rfl (by kernel_rfl) (by kernel_rfl) (by kernel_rfl) (by kernel_rfl) (fun _ _ _ h => h) (Or.inl ⟨by rfl, ?_⟩) (by assumption) ?_
      rotate_left 1
      · (intro w hSw; obtain ⟨hk1, hk2⟩ := hSw; go_simp <;> with_reducible rfl)
      simp only [Act.put, List.getElem_toArray, List.getElem_cons_zero, List.getElem_cons_succ, List.setIfInBounds_toArray, List.set_cons_zero, List.set_cons_succ]
      refine AnyM.takeAny (i := 12) (v := ?_) rfl (by kernel_rfl) (by kernel_rfl) (by kernel_rfl) (by kernel_rfl) (fun _ _ _ h => h) (Or.inl ⟨by rfl, ?_⟩) (fun h => by first | assumption | exact Bool.noConfusion (h.symm.trans (by kernel_rfl : _ = true))) ?_
      rotate_left 1
      · (intro w _; go_simp <;> with_reducible rfl)
      simp only [Act.put, List.getElem_toArray, List.getElem_cons_zero, List.getElem_cons_succ, List.setIfInBounds_toArray, List.set_cons_zero, List.set_cons_succ]
      refine AnyM.takeAny (i := 13) (v := ?_) rfl (by kernel_rfl) (by kernel_rfl) (by kernel_rfl) (by kernel_rfl) (fun _ _ _ h => h) (Or.inl ⟨by rfl, ?_⟩) (fun h => by first | assumption | exact Bool.noConfusion (h.symm.trans (by kernel_rfl : _ = true))) ?_
      rotate_left 1
      · (intro w _; go_simp <;> with_reducible rfl)
      simp only [Act.put, List.getElem_toArray, List.getElem_cons_zero, List.getElem_cons_succ, List.setIfInBounds_toArray, List.set_cons_zero, List.set_cons_succ]
      refine AnyM.take (i := 14) (v := ?_) rfl (by kernel_rfl) (by kernel_rfl) (by kernel_rfl) (by kernel_rfl) (fun _ _ _ h => h) (Or.inl ⟨by rfl, ?_⟩) (by assumption) ?_
      rotate_left 1
      · (intro w hSw; obtain ⟨hk1, hk2⟩ := hSw; go_simp <;> with_reducible rfl)
      simp only [Act.put, List.getElem_toArray, List.getElem_cons_zero, List.getElem_cons_succ, List.setIfInBounds_toArray, List.set_cons_zero, List.set_cons_succ]
      refine AnyM.next [15] (by kernel_rfl) (by simp) ?_
      refine NextM.cons rfl (fun K hK => ?_) NextM.nil
      go_simp
      refine hK _ _ (fun h => by simp at h) ?_
      clear hK K hSd
      refine AnyM.done (by kernel_rfl) ?_ _
      obtain ⟨W1, hW1⟩ : ∃ W, (wr.setCell ⟨mg, k * 3 + 1, none⟩ (.int .i64 (lo + uu))).drew = W := ⟨_, rfl⟩
      have hM1 : Blk W1 bm 73 [.slice (some ⟨mg, 0, none⟩) l.length mc, .int .i64 after, .int .i64 width] := by rw [← hW1]; exact Blk.drewN (hMr.far (by show bm ≠ mg; omega) _) 1
      have hown1 : W1.ownsRow q 99 3 (.slice (some ⟨mg, 0, none⟩) l.length mc) l.length ((ps (mixT uu l k)).set (k * 3 + 1) (.int .i64 (lo + uu))) := by rw [← hW1]; exact (hownr.stored (k * 3 + 1) _).1.drew
      have hb1_ : Below q ws W1 := by rw [← hW1]; exact (hbr.setCell (by show q ≤ mg; omega) _).drew
      have y22 : W1.cell? ⟨mg, k * 3 + 2, none⟩ = some (.int .i64 hi) := by
        rw [hown1.cellAt (k * 3 + 2) (by omega), List.getElem?_set_ne (by omega), ← hownr.cellAt (k * 3 + 2) (by omega)]
        exact y2
      have yf22 := hown1.frozenAt (k * 3 + 2)
      have zg1 : mg < W1.heap.size := by have := hM1.lt; omega
      rw [hW1]
      clear hW1 y1 y2 yf1 yf2 m0 m1 m2 zm hMr hownr
      have m0 := hM1.cell 0; have m1 := hM1.cell 1; have m2 := hM1.cell 2; simp only [List.getElem?_cons_zero, List.getElem?_cons_succ] at m0 m1 m2
      have zm := hM1.lt
      go_upto_region 25 with fail
      refine wp_region_M (fun w' => (∀ b o, b < W1.heap.size → w'.cell? ⟨b, o, none⟩ = W1.cell? ⟨b, o, none⟩) ∧ Below W1.heap.size W1 w') 15 (by kernel_rfl) ?_
      have hSd : (∀ b o, b < W1.heap.size → W1.drew.cell? ⟨b, o, none⟩ = W1.cell? ⟨b, o, none⟩) ∧ Below W1.heap.size W1 W1.drew := kp (Below.refl _ _).drew
      refine AnyM.take (i := 0) (v := ?_) rfl (by kernel_rfl) (by kernel_rfl) (by kernel_rfl) (by kernel_rfl) (fun _ _ _ h => h) (Or.inl ⟨by rfl, ?_⟩) (by assumption) ?_
      rotate_left 1
      · (intro w hSw; obtain ⟨hk1, hk2⟩ := hSw; go_simp <;> with_reducible rfl)
      simp only [Act.put, List.getElem_toArray, List.getElem_cons_zero, List.setIfInBounds_toArray, List.set_cons_zero, List.set_cons_succ]
      refine AnyM.take (i := 1) (v := ?_) rfl (by kernel_rfl) (by kernel_rfl) (by kernel_rfl) (by kernel_rfl) (fun _ _ _ h => h) (Or.inl ⟨by rfl, ?_⟩) (by assumption) ?_
      rotate_left 1
      · (intro w hSw; obtain ⟨hk1, hk2⟩ := hSw; go_simp <;> with_reducible rfl)
      simp only [Act.put, List.getElem_toArray, List.getElem_cons_zero, List.getElem_cons_succ, List.setIfInBounds_toArray, List.set_cons_zero, List.set_cons_succ]
      refine AnyM.take (i := 2) (v := ?_) rfl (by kernel_rfl) (by kernel_rfl) (by kernel_rfl) (by kernel_rfl) (fun _ _ _ h => h) (Or.inl ⟨by rfl, ?_⟩) (by assumption) ?_
      rotate_left 1
      · (intro w hSw; obtain ⟨hk1, hk2⟩ := hSw; go_simp <;> with_reducible rfl)
      simp only [Act.put, List.getElem_toArray, List.getElem_cons_zero, List.getElem_cons_succ, List.setIfInBounds_toArray, List.set_cons_zero, List.set_cons_succ]
      refine AnyM.take (i := 3) (v := ?_) rfl (by kernel_rfl) (by kernel_rfl) (by kernel_rfl) (by kernel_rfl) (fun _ _ _ h => h) (Or.inl ⟨by rfl, ?_⟩) (by assumption) ?_
      rotate_left 1
      · (intro w hSw; obtain ⟨hk1, hk2⟩ := hSw; go_simp <;> with_reducible rfl)
      simp only [Act.put, List.getElem_toArray, List.getElem_cons_zero, List.getElem_cons_succ, List.setIfInBounds_toArray, List.set_cons_zero, List.set_cons_succ]
      refine AnyM.take (i := 4) (v := ?_) rfl (by kernel_rfl) (by kernel_rfl) (by kernel_rfl) (by kernel_rfl) (fun _ _ _ h => h) (Or.inl ⟨by rfl, ?_⟩) (by assumption) ?_
      rotate_left 1
      · (intro w hSw; obtain ⟨hk1, hk2⟩ := hSw; go_simp <;> with_reducible rfl)
      simp only [Act.put, List.getElem_toArray, List.getElem_cons_zero, List.getElem_cons_succ, List.setIfInBounds_toArray, List.set_cons_zero, List.set_cons_succ]
      refine AnyM.take (i := 5) (v := ?_) rfl (by kernel_rfl) (by kernel_rfl) (by kernel_rfl) (by kernel_rfl) (fun _ _ _ h => h) (Or.inl ⟨by rfl, ?_⟩) (by assumption) ?_
      rotate_left 1
      · (intro w hSw; obtain ⟨hk1, hk2⟩ := hSw; go_simp <;> with_reducible rfl)
      simp only [Act.put, List.getElem_toArray, List.getElem_cons_zero, List.getElem_cons_succ, List.setIfInBounds_toArray, List.set_cons_zero, List.set_cons_succ]
      refine AnyM.take (i := 6) (v := ?_) rfl (by kernel_rfl) (by kernel_rfl) (by kernel_rfl) (by kernel_rfl) (fun _ _ _ h => h) (Or.inl ⟨by rfl, ?_⟩) (by assumption) ?_
      rotate_left 1
      · (intro w hSw; obtain ⟨hk1, hk2⟩ := hSw; go_simp <;> with_reducible rfl)
      simp only [Act.put, List.getElem_toArray, List.getElem_cons_zero, List.getElem_cons_succ, List.setIfInBounds_toArray, List.set_cons_zero, List.set_cons_succ]
      refine AnyM.take (i := 7) (v := ?_) rfl (by kernel_rfl) (by kernel_rfl) (by kernel_rfl) (by kernel_rfl) (fun _ _ _ h => h) (Or.inl ⟨by rfl, ?_⟩) (by assumption) ?_
      rotate_left 1
      · (intro w hSw; obtain ⟨hk1, hk2⟩ := hSw; go_simp <;> with_reducible rfl)
      simp only [Act.put, List.getElem_toArray, List.getElem_cons_zero, List.getElem_cons_succ, List.setIfInBounds_toArray, List.set_cons_zero, List.set_cons_succ]
      refine AnyM.take (i := 8) (v := ?_) rfl (by kernel_rfl) (by kernel_rfl) (by kernel_rfl) (by kernel_rfl) (fun _ _ _ h => h) (Or.inl ⟨by rfl, ?_⟩) (by assumption) ?_
      rotate_left 1
      · (intro w hSw; obtain ⟨hk1, hk2⟩ := hSw; go_simp <;> with_reducible rfl)
      simp only [Act.put, List.getElem_toArray, List.getElem_cons_zero, List.getElem_cons_succ, List.setIfInBounds_toArray, List.set_cons_zero, List.set_cons_succ]
      refine AnyM.take (i := 9) (v := ?_) rfl (by kernel_rfl) (by kernel_rfl) (by kernel_rfl) (by kernel_rfl) (fun _ _ _ h => h) (Or.inl ⟨by rfl, ?_⟩) (by assumption) ?_
      rotate_left 1
      · (intro w hSw; obtain ⟨hk1, hk2⟩ := hSw; go_simp <;> with_reducible rfl)
      simp only [Act.put, List.getElem_toArray, List.getElem_cons_zero, List.getElem_cons_succ, List.setIfInBounds_toArray, List.set_cons_zero, List.set_cons_succ]
      refine AnyM.take (i := 10) (v := ?_) rfl (by kernel_rfl) (by kernel_rfl) (by kernel_rfl) (by kernel_rfl) (fun _ _ _ h => h) (Or.inl ⟨by rfl, ?_⟩) (by assumption) ?_
      rotate_left 1
      · (intro w hSw; obtain ⟨hk1, hk2⟩ := hSw; go_simp <;> with_reducible rfl)
      simp only [Act.put, List.getElem_toArray, List.getElem_cons_zero, List.getElem_cons_succ, List.setIfInBounds_toArray, List.set_cons_zero, List.set_cons_succ]
      refine AnyM.take (i := 11) (v := ?_) rfl (by kernel_rfl) (by kernel_rfl) (by kernel_rfl) (by kernel_rfl) (fun _ _ _ h => h) (Or.inl ⟨by rfl, ?_⟩) (by assumption) ?_
      rotate_left 1
      · (intro w hSw; obtain ⟨hk1, hk2⟩ := hSw; go_simp <;> with_reducible rfl)
      simp only [Act.put, List.getElem_toArray, List.getElem_cons_zero, List.getElem_cons_succ, List.setIfInBounds_toArray, List.set_cons_zero, List.set_cons_succ]
      refine AnyM.takeAny (i := 12) (v := ?_) rfl (by kernel_rfl) (by kernel_rfl) (by kernel_rfl) (by kernel_rfl) (fun _ _ _ h => h) (Or.inl ⟨by rfl, ?_⟩) (fun h => by first | assumption | exact Bool.noConfusion (h.symm.trans (by kernel_rfl : _ = true))) ?_
      rotate_left 1
      · (intro w _; go_simp <;> with_reducible rfl)
      simp only [Act.put, List.getElem_toArray, List.getElem_cons_zero, List.getElem_cons_succ, List.setIfInBounds_toArray, List.set_cons_zero, List.set_cons_succ]
      refine AnyM.takeAny (i := 13) (v := ?_) rfl (by kernel_rfl) (by kernel_rfl) (by kernel_rfl) (by kernel_rfl) (fun _ _ _ h => h) (Or.inl ⟨by rfl, ?_⟩) (fun h => by first | assumption | exact Bool.noConfusion (h.symm.trans (by kernel_rfl : _ = true))) ?_
      rotate_left 1
      · (intro w _; go_simp <;> with_reducible rfl)
      simp only [Act.put, List.getElem_toArray, List.getElem_cons_zero, List.getElem_cons_succ, List.setIfInBounds_toArray, List.set_cons_zero, List.set_cons_succ]
      refine AnyM.take (i := 14) (v := ?_) rfl (by kernel_rfl) (by kernel_rfl) (by kernel_rfl) (by kernel_rfl) (fun _ _ _ h => h) (Or.inl ⟨by rfl, ?_⟩) (by assumption) ?_
      rotate_left 1
      · (intro w hSw; obtain ⟨hk1, hk2⟩ := hSw; go_simp <;> with_reducible rfl)
      simp only [Act.put, List.getElem_toArray, List.getElem_cons_zero, List.getElem_cons_succ, List.setIfInBounds_toArray, List.set_cons_zero, List.set_cons_succ]
      refine AnyM.next [15] (by kernel_rfl) (by simp) ?_
      refine NextM.cons rfl (fun K hK => ?_) NextM.nil
      go_simp
      refine hK _ _ (fun h => by simp at h) ?_
      clear hK K hSd
      refine AnyM.done (by kernel_rfl) ?_ _
      obtain ⟨W2, hW2⟩ : ∃ W, (W1.setCell ⟨mg, k * 3 + 2, none⟩ (.int .i64 (hi + uu))).drew = W := ⟨_, rfl⟩
      have hM2 : Blk W2 bm 73 [.slice (some ⟨mg, 0, none⟩) l.length mc, .int .i64 after, .int .i64 width] := by rw [← hW2]; exact Blk.drewN (hM1.far (by show bm ≠ mg; omega) _) 1
      have hown2 : W2.ownsRow q 99 3 (.slice (some ⟨mg, 0, none⟩) l.length mc) l.length (ps (mixT uu l (k + 1))) := by rw [← hW2, ← HST.out (lo + uu) (hi + uu) rfl rfl]; exact (hown1.stored (k * 3 + 2) _).1.drew
      have hb2_ : Below q ws W2 := by rw [← hW2]; exact (hb1_.setCell (by show q ≤ mg; omega) _).drew
      rw [hW2]
      clear hW2
      go_wp2
      go_roundw
      case rel => exact ⟨k + 1, by omega, by go_num, hb2_, hM2, hown2⟩
      case measure => simp [intOf]; omega
    · obtain rfl : k = l.length := by omega
      rw [mixT_all] at hownr
      obtain ⟨wl, rfl⟩ : ∃ wl : World, wl = wr := ⟨_, rfl⟩
      have hrM := Rd.of_own hownr
      have hXl := hXs.below hbr hqp
      have hrl_ := hrs.below hbr hqs
      have HBl := HBs.trans (hbr.mono (by omega))
      clear hownr hMV hownV hbsq HPS hk hlt
      have d0 := hXl.cell 0; have d1 := hXl.cell 1; have d2 := hXl.cell 2; simp only [List.getElem?_cons_zero, List.getElem?_cons_succ] at d0 d1 d2
      have zd := hXl.lt
      by_cases gm : (trE (movedT uu l) after width).2 = 0
      · have hM := trE_zero gm
        rw [gm] at HTM
        clear gm
        have hLl := hLs.below hbr hqs
        go_upto_region 28 with (first | (go_at_call 60; refine (HTM.out _ _ _ hrM).mono ?_; rintro e w10 ⟨rfl, hb10⟩))
        have hM10 := hMr.bel hb10
        have hrM10 := hrM.bel hb10
        have hX10 := hXl.bel hb10
        have hr10 := hrl_.bel hb10
        have hL10 := hLl.bel hb10
        have HB10 := bel_tr HBl (by have := HBl.size; omega) hb10
        clear m0 m1 m2 zm d0 d1 d2 zd hMr hrM hXl hrl_ hLl HBl hb10
        have m0 := hM10.cell 0; have m1 := hM10.cell 1; have m2 := hM10.cell 2; simp only [List.getElem?_cons_zero, List.getElem?_cons_succ] at m0 m1 m2
        have d0 := hX10.cell 0; have d1 := hX10.cell 1; have d2 := hX10.cell 2; simp only [List.getElem?_cons_zero, List.getElem?_cons_succ] at d0 d1 d2
        have zm := hM10.lt
        have zd := hX10.lt
        have HLM := hide (HLM0.out hM)
        have HHM := hide (HHM0.out hM)
        go_upto_region 29 with (first
          | (go_at_call 52; refine (HCM.out _ _ _ hrM10).mono ?_; rintro e wa ⟨⟨Aa, qa, rfl, hra⟩, hba⟩)
          | (go_at_call 53; refine (HLM.out Aa qa _ hra).mono ?_; rintro e w11 ⟨⟨KA, kc, rfl, hK11⟩, hb11⟩))
        replace hb11 := tr hba hb11 hba.size
        have hM11 := hM10.bel hb11
        have hrM11 := hrM10.bel hb11
        have hX11 := hX10.bel hb11
        have hr11 := hr10.bel hb11
        have hL11 := hL10.bel hb11
        have HB11 := bel_tr HB10 (by have := HB10.size; omega) hb11
        clear m0 m1 m2 zm d0 d1 d2 zd hM10 hrM10 hX10 hr10 hL10 HB10 hb11 hba hra
        have m0 := hM11.cell 0; have m1 := hM11.cell 1; have m2 := hM11.cell 2; simp only [List.getElem?_cons_zero, List.getElem?_cons_succ] at m0 m1 m2
        have d0 := hX11.cell 0; have d1 := hX11.cell 1; have d2 := hX11.cell 2; simp only [List.getElem?_cons_zero, List.getElem?_cons_succ] at d0 d1 d2
        have zm := hM11.lt
        have zd := hX11.lt
        go_upto_region 33 with (first | (go_at_call 57; refine (HRG2.out _ _ _ _ _ hK11 hL11).mono ?_; rintro e w12 ⟨rfl, hb12⟩))
        have hM12 := hM11.bel hb12
        have hrM12 := hrM11.bel hb12
        have hX12 := hX11.bel hb12
        have hr12 := hr11.bel hb12
        have HB12 := bel_tr HB11 (by have := HB11.size; omega) hb12
        clear m0 m1 m2 zm d0 d1 d2 zd hM11 hrM11 hX11 hr11 hL11 hK11 HB11 hb12
        have m0 := hM12.cell 0; have m1 := hM12.cell 1; have m2 := hM12.cell 2; simp only [List.getElem?_cons_zero, List.getElem?_cons_succ] at m0 m1 m2
        have d0 := hX12.cell 0; have d1 := hX12.cell 1; have d2 := hX12.cell 2; simp only [List.getElem?_cons_zero, List.getElem?_cons_succ] at d0 d1 d2
        have zm := hM12.lt
        have zd := hX12.lt
        go_upto_region 34 with (first
          | (go_at_call 52; refine (copyTrace_c A c after width l _ hr12 hl).mono ?_; rintro e wa ⟨⟨Aa, qa, rfl, hra⟩, hba⟩)
          | (go_at_call 54; refine (HHE.out Aa qa _ hra).mono ?_; rintro e w13 ⟨⟨HA, hc, rfl, hH13⟩, hb13⟩))
        replace hb13 := tr hba hb13 hba.size
        have hM13 := hM12.bel hb13
        have hrM13 := hrM12.bel hb13
        have hX13 := hX12.bel hb13
        have HB13 := bel_tr HB12 (by have := HB12.size; omega) hb13
        clear m0 m1 m2 zm d0 d1 d2 zd hM12 hrM12 hX12 hr12 HB12 hb13 hba hra
        have m0 := hM13.cell 0; have m1 := hM13.cell 1; have m2 := hM13.cell 2; simp only [List.getElem?_cons_zero, List.getElem?_cons_succ] at m0 m1 m2
        have d0 := hX13.cell 0; have d1 := hX13.cell 1; have d2 := hX13.cell 2; simp only [List.getElem?_cons_zero, List.getElem?_cons_succ] at d0 d1 d2
        have zm := hM13.lt
        have zd := hX13.lt
        go_upto_region 35 with (first
          | (go_at_call 54; refine (HHM.out _ _ _ hrM13).mono ?_; rintro e w14 ⟨⟨GA, gc, rfl, hG14⟩, hb14⟩))
        have hX14 := hX13.bel hb14
        have hH14 := hH13.bel hb14
        have HB14 := bel_tr HB13 (by have := HB13.size; omega) hb14
        clear m0 m1 m2 zm d0 d1 d2 zd hM13 hrM13 hX13 hH13 HB13 hb14
        have d0 := hX14.cell 0; have d1 := hX14.cell 1; have d2 := hX14.cell 2; simp only [List.getElem?_cons_zero, List.getElem?_cons_succ] at d0 d1 d2
        have zd := hX14.lt
        go_wp2
        go_loopw [24] (fun x wr => ∃ k : Nat, k ≤ l.length ∧ x = .int .i64 k ∧ Below w14.heap.size w14 wr) (fun x _ => l.length - (intOf x).toNat)
        case atStart => exact ⟨0, Nat.zero_le _, rfl, Below.refl _ _⟩
        case round =>
          obtain ⟨k, hk, rfl, hbr2⟩ := hrel
          have hHr := hH14.bel hbr2
          have hGr := hG14.bel hbr2
          by_cases hlt : k < l.length
          · have hkH : k < HT.length := by omega
            have hkG : k < (HT.map (upG uu)).length := by simpa using hkH
            obtain ⟨xb, xo, rfl, hxb, x0, x1⟩ := hHr.g_at hkH
            obtain ⟨yb, yo, rfl, hyb, y0, y1⟩ := hGr.g_at hkG
            have hbd := HPT.out k hkH
            rw [List.getElem_map] at y0 y1
            unfold upG at y0 y1
            dsimp only at y0 y1
            try clear hkG
            generalize HT[k].1 = a at x0 y0 hbd
            generalize HT[k].2 = b2 at x1 y1 hbd
            have v1 : IntKind.i64.wrap (a + uu) = a + uu := by simp (disch := omega) only [IntWalk.i64_in]
            have v2 : IntKind.i64.wrap (b2 + uu) = b2 + uu := by simp (disch := omega) only [IntWalk.i64_in]
            have HW1 := hide (fun W => within_c a 0 1099511627776 W)
            have HW2 := hide (fun W => within_c b2 a 1099511627776 W)
            rw [outB_false.2 (by omega)] at HW1 HW2
            have hkI : (k : Int) < (l.length : Int) := by omega
            go_upto_region 40 with fail
            go_region_held3 (fun w' => (∀ b o, b < wr.heap.size → w'.cell? ⟨b, o, none⟩ = wr.cell? ⟨b, o, none⟩) ∧ Below wr.heap.size wr w')
              ((refine kp ?_; (repeat' (first | with_reducible exact Below.refl _ _ | with_reducible refine Below.drew ?_)); all_goals (first | omega | (simp <;> omega))))
              (first | (go_at_call 23; with_reducible refine (HW1.out _).mono ?_; rintro e_ w_ ⟨rfl, rfl⟩) | (go_at_call 23; with_reducible refine (HW2.out _).mono ?_; rintro e_ w_ ⟨rfl, rfl⟩))
            all_goals (
              go_wp2
              go_roundw
              case rel => exact ⟨k + 1, by omega, by go_num, by (repeat' (first | with_reducible exact hbr2 | with_reducible exact below_drewN hbr2 _ | with_reducible refine Below.drew ?_))⟩
              try (case measure => (simp [intOf]; omega)))
          · obtain rfl : k = l.length := by omega
            go_wp2
            go_ret
            exact ⟨rfl, by rw [hp]; exact bel_tr HB14 (by have := HB14.size; omega) hbr2⟩
      · have e1 : ((trE (movedT uu l) after width).2 != 0) = true := by simpa using gm
        generalize (trE (movedT uu l) after width).2 = EM at HTM e1
        clear gm
        go_wp2_with (first | (go_at_call 60; refine (HTM.out _ _ _ hrM).mono ?_; rintro e w10 ⟨rfl, hb10⟩))
        go_ret
        exact ⟨rfl, by rw [hp]; exact bel_tr HBl (by have := HBl.size; omega) hb10⟩
end Go.Proofs.Ytgnhkjfdicdcmaa
