/- Two ways: the part is not laminated. -/
import Derived.Test.YtgnhkjfdicdcmaaK8
namespace Go.Proofs.Ytgnhkjfdicdcmaa
open Go.RowKit
set_option maxRecDepth 100000

set_option maxHeartbeats 20000000 in
theorem twoWaysC_c (A : Option Addr) (c : Nat) (after width cut up : Int) (l : List PT) (w : World) (hr : Rd w A (ps l)) (hc1 : -9223372036854775808 ≤ cut) (hc2 : cut ≤ 9223372036854775807) (hu1 : -9223372036854775808 ≤ up) (hu2 : up ≤ 9223372036854775807) (h8 : l.length ≤ 8) (h1 : (trE l after width).2 = 0) (nn : Nat) (hnn : 1 + cut % (l.length : Int) = nn) (gp : ¬(lam l after width (nn - 1)).2 = 0) :
    Calls Try.prog 14 #[.agg #[.slice A l.length c, .int .i64 after, .int .i64 width], .int .i64 cut, .int .i64 up] w fun r w' => r = .returned (.bool true) ∧ Below w.heap.size w w' := by
  obtain ⟨W0, hW0⟩ : ∃ W0, w.alloc (.cells #[.slice A l.length c, .int .i64 after, .int .i64 width] 73) = W0 := ⟨_, rfl⟩
  obtain ⟨p, hp⟩ : ∃ p, w.heap.size = p := ⟨_, rfl⟩
  have hX0 : Blk W0 p 73 [.slice A l.length c, .int .i64 after, .int .i64 width] := by rw [← hW0, ← hp]; exact Blk.new w _ [_, _, _]
  have HB0 : Below p w W0 := by rw [← hW0, ← hp]; exact alloc_bel w _
  have hr0 := hr.bel (by rw [hp]; exact HB0)
  have HW := hide hW0
  clear hW0
  have c0 := hX0.cell 0; have c1 := hX0.cell 1; have c2 := hX0.cell 2; simp only [List.getElem?_cons_zero, List.getElem?_cons_succ] at c0 c1 c2
  have z0 := hX0.lt
  have e8 : decide (8 < (l.length : Int)) = false := decide_eq_false (by omega)
  have hl : l.length ≤ 1000 := by omega
  have HTE := hide (fun W h => refTraceErr_c A c after width l W h hl)
  have hT := trE_zero h1
  rw [h1] at HTE
  clear h1
  have hn0 := hT.n0
  have hm0 := Int.emod_nonneg cut (show (l.length : Int) ≠ 0 by omega)
  have hm1 := Int.emod_lt_of_pos cut (show 0 < (l.length : Int) by omega)
  have HMC := hide (fun W => mod_c cut (l.length : Int) W (by omega) (by omega) hc1 hc2)
  have HMU := hide (fun W => mod_c up 1000 W (by omega) (by omega) hu1 hu2)
  have hnn1 : 1 ≤ nn := by omega
  have hnn2 : nn ≤ l.length := by omega
  have u1 : IntKind.i64.wrap (1 + cut % (l.length : Int)) = (nn : Int) := by rw [← hnn]; simp (disch := omega) only [IntWalk.i64_in]
  have ua0 := Int.emod_nonneg up (show (1000 : Int) ≠ 0 by omega)
  have ua1 := Int.emod_lt_of_pos up (show 0 < (1000 : Int) by omega)
  have ha0 := hT.a0
  have ha1 := hT.a1
  have hw0 := hT.w0
  have hw1 := hT.w1
  obtain ⟨uu, huu⟩ : ∃ u, up % 1000 = u := ⟨_, rfl⟩
  rw [huu] at HMU ua0 ua1
  clear huu
  have HTM := hide (fun A c W (h : Rd W A (ps (movedT uu l))) => refTraceErr_c A c after width (movedT uu l) W h (by simpa using hl))
  have HCM := hide (fun A c W (h : Rd W A (ps (movedT uu l))) => copyTrace_c A c after width (movedT uu l) W h (by simpa using hl))
  rw [movedT_length] at HTM HCM
  generalize cut % (l.length : Int) = cm at HMC hm0 hm1 hnn u1
  have HNN := hide hnn
  clear hnn
  have HLP0 := hide (lamPart_c hT hnn1 hnn2)
  have est := lam_stays gp (show nn - 1 ≤ l.length - 1 by omega)
  have HLT : Hid (∀ (A : Option Addr) (c : Nat) W, Rd W A (ps l) → Calls Try.prog 53 #[.agg #[.slice A l.length c, .int .i64 after, .int .i64 width]] W fun r w' => r = .returned (.tuple #[.slice none 0 0, .int .i64 (lam l after width (nn - 1)).2, .int .i64 13]) ∧ Below W.heap.size W w') := fun A c W h => (laminatedAll_ok A c after width l W h hT).mono fun r w' hx => by
    obtain ⟨h, hb⟩ := hx
    rw [est] at h
    rcases h with ⟨h, _⟩ | ⟨_, h⟩
    · exact absurd h gp
    · exact ⟨h, hb⟩
  have HLP : Hid (∀ (A : Option Addr) (c : Nat) W, Rd W A (ps (l.take nn)) → Calls Try.prog 53 #[.agg #[.slice A nn c, .int .i64 (min after ((nn : Int) - 1)), .int .i64 width]] W fun r w' => r = .returned (.tuple #[.slice none 0 0, .int .i64 (lam l after width (nn - 1)).2, .int .i64 13]) ∧ Below W.heap.size W w') := fun A c W h => (HLP0.out A c W h).mono fun r w' hx => by
    obtain ⟨h, hb⟩ := hx
    rcases h with ⟨h, _⟩ | ⟨_, h⟩
    · exact absurd h gp
    · exact ⟨h, hb⟩
  clear gp est HLP0 hT
  generalize (lam l after width (nn - 1)).2 = I0 at HLT HLP
  go_enter Try.func14, Try.ntmps14
  go_upto_region 1 with fail
  rw [HW.out]
  go_upto_region 6 with (first
    | (go_at_call 66; refine (profileAwake_c _).mono ?_; rintro e w1 ⟨rfl, hb1⟩; have hX1 := hX0.bel hb1; have hr1 := hr0.bel hb1; have HB1 := bel_tr HB0 (by omega) hb1; have d0 := hX1.cell 0; have d1 := hX1.cell 1; have d2 := hX1.cell 2; simp only [List.getElem?_cons_zero, List.getElem?_cons_succ] at d0 d1 d2; have zd := hX1.lt)
    | (go_at_call 60; refine (HTE.out _ hr1).mono ?_; rintro e w2 ⟨rfl, hb2⟩; have hX2 := hX1.bel hb2; have hr2 := hr1.bel hb2; have HB2 := bel_tr HB1 (by have := HB1.size; omega) hb2; have f0 := hX2.cell 0; have f1 := hX2.cell 1; have f2 := hX2.cell 2; simp only [List.getElem?_cons_zero, List.getElem?_cons_succ] at f0 f1 f2; have zf := hX2.lt)
    | (go_at_call 67; refine (HMC.out _).mono ?_; rintro e_ w_ ⟨rfl, rfl⟩))
  clear c0 c1 c2 d0 d1 d2 zd z0 hX0 hX1 hr0 hr1 hb1 hb2 HB1
  go_upto_region 7 with (first | (go_at_call 52; refine (copyTraceOwn_c A c after width l _ hr2 hl).mono ?_; rintro e w3 ⟨⟨vv, rfl, hown3⟩, hb3⟩; obtain ⟨rg, rc, rfl, hrg, hrl⟩ := World.ownsRow.form hown3 (by omega)))
  have hcap := own_cap hown3
  have hX3 := hX2.bel hb3
  have HB3 := bel_tr HB2 (by have := HB2.size; omega) hb3
  obtain ⟨pb, hpb⟩ : ∃ pb, w3.heap.size = pb := ⟨_, rfl⟩
  obtain ⟨W4, hW4⟩ : ∃ W, w3.alloc (.cells #[.slice (some ⟨rg, 0, none⟩) l.length rc, .int .i64 after, .int .i64 width] 73) = W := ⟨_, rfl⟩
  have hb4 : Below w3.heap.size w3 W4 := by rw [← hW4]; exact alloc_bel _ _
  have hQ4 : Blk W4 pb 73 [.slice (some ⟨rg, 0, none⟩) l.length rc, .int .i64 after, .int .i64 width] := by rw [← hW4, ← hpb]; exact Blk.new w3 _ [_, _, _]
  have hX4 := hX3.bel hb4
  have hown4 := ownsRow_bel hown3 hb4
  have HB4 := bel_tr HB3 (by have := HB3.size; omega) hb4
  have zx3 := hX3.lt
  try rw [hpb]
  rw [hW4]
  have hrpb : rg < pb := by omega
  have hppb : p < pb := by omega
  clear hW4 hX2 hX3 f0 f1 f2 zf hown3 hb3 hb4 hpb hrl hr2 HB2 HB3
  have d0 := hX4.cell 0; have d1 := hX4.cell 1; have d2 := hX4.cell 2; simp only [List.getElem?_cons_zero, List.getElem?_cons_succ] at d0 d1 d2
  have f0 := hQ4.cell 0; have f1 := hQ4.cell 1; have f2 := hQ4.cell 2; simp only [List.getElem?_cons_zero, List.getElem?_cons_succ] at f0 f1 f2
  have ff0 := hQ4.frozen 0
  have ff1 := hQ4.frozen 1
  have zd := hX4.lt
  have zf := hQ4.lt
  go_upto_region 9 with fail
  have emn : (if (nn : Int) - 1 < after then (nn : Int) - 1 else after) = min after ((nn : Int) - 1) := by rw [Int.min_def]; split <;> split <;> omega
  rw [emn]
  clear emn
  generalize min after ((nn : Int) - 1) = a2 at HLP ⊢
  obtain ⟨W5, hW5⟩ : ∃ W, (W4.setCell ⟨pb, 0, none⟩ (.slice (some ⟨rg, 0, none⟩) nn rc)).setCell ⟨pb, 1, none⟩ (.int .i64 a2) = W := ⟨_, rfl⟩
  have hX5 : Blk W5 p 73 [.slice A l.length c, .int .i64 after, .int .i64 width] := by rw [← hW5]; exact (hX4.far (by show p ≠ pb; omega) _).far (by show p ≠ pb; omega) _
  have hQ5 : Blk W5 pb 73 [.slice (some ⟨rg, 0, none⟩) nn rc, .int .i64 a2, .int .i64 width] := by rw [← hW5]; exact (hQ4.set_ 0 _).set_ 1 _
  have hown5 := own_ne' (own_ne' hown4 (p := ⟨pb, 0, none⟩) (by show rg ≠ pb; omega) (.slice (some ⟨rg, 0, none⟩) nn rc)) (p := ⟨pb, 1, none⟩) (by show rg ≠ pb; omega) (.int .i64 a2)
  rw [hW5] at hown5
  have hrP5 := (Rd.of_own hown5).ps_take nn
  have HB5 : Below p w W5 := by rw [← hW5]; exact (HB4.setCell (by show p ≤ pb; omega) _).setCell (by show p ≤ pb; omega) _
  have hr5 := hr.below HB5 (by omega)
  rw [hW5]
  have HCP := hide (fun W h => copyPart_c hnn2 hl (some ⟨rg, 0, none⟩) rc a2 width W h)
  clear hW5 d0 d1 d2 f0 f1 f2 ff0 ff1 zd zf hX4 hQ4 hown4 hown5 HB4 hcap
  have d0 := hX5.cell 0; have d1 := hX5.cell 1; have d2 := hX5.cell 2; simp only [List.getElem?_cons_zero, List.getElem?_cons_succ] at d0 d1 d2
  have f0 := hQ5.cell 0; have f1 := hQ5.cell 1; have f2 := hQ5.cell 2; simp only [List.getElem?_cons_zero, List.getElem?_cons_succ] at f0 f1 f2
  have zd := hX5.lt
  have zf := hQ5.lt
  go_upto_region 10 with (first
    | (go_at_call 52; refine (copyTrace_c A c after width l _ hr5 hl).mono ?_; rintro e wa ⟨⟨Aa, qa, rfl, hra⟩, hba⟩)
    | (go_at_call 53; refine (HLT.out Aa qa _ hra).mono ?_; rintro e w6 ⟨rfl, hb6⟩))
  replace hb6 := tr hba hb6 hba.size
  have hX6 := hX5.bel hb6
  have hQ6 := hQ5.bel hb6
  have hrP6 := hrP5.bel hb6
  have hr6 := hr5.bel hb6
  have HB6 := bel_tr HB5 (by have := HB5.size; omega) hb6
  clear d0 d1 d2 f0 f1 f2 zd zf hX5 hQ5 hrP5 hr5 HB5 hba hra hb6
  have d0 := hX6.cell 0; have d1 := hX6.cell 1; have d2 := hX6.cell 2; simp only [List.getElem?_cons_zero, List.getElem?_cons_succ] at d0 d1 d2
  have f0 := hQ6.cell 0; have f1 := hQ6.cell 1; have f2 := hQ6.cell 2; simp only [List.getElem?_cons_zero, List.getElem?_cons_succ] at f0 f1 f2
  have zd := hX6.lt
  have zf := hQ6.lt
  go_upto_region 11 with (first
    | (go_at_call 52; refine (HCP.out _ hrP6).mono ?_; rintro e wa ⟨⟨Aa, qa, rfl, hra⟩, hba⟩)
    | (go_at_call 53; refine (HLP.out Aa qa _ hra).mono ?_; rintro e w7 ⟨rfl, hb7⟩))
  replace hb7 := tr hba hb7 hba.size
  have hX7 := hX6.bel hb7
  have hr7 := hr6.bel hb7
  have HB7 := bel_tr HB6 (by have := HB6.size; omega) hb7
  skip
  clear d0 d1 d2 f0 f1 f2 zd zf hX6 hQ6 hrP6 hr6 HB6 hba hra hb7
  have d0 := hX7.cell 0; have d1 := hX7.cell 1; have d2 := hX7.cell 2; simp only [List.getElem?_cons_zero, List.getElem?_cons_succ] at d0 d1 d2
  have zd := hX7.lt
  go_wp2
  go_ret
  exact ⟨rfl, by rw [hp]; exact HB7⟩
end Go.Proofs.Ytgnhkjfdicdcmaa
