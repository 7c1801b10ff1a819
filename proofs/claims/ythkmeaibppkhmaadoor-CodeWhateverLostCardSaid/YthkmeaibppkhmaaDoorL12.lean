/- The law CodeLevels: the call returns true, and nothing that was there turns. Condition: the laid table. -/
import Derived.Test.YthkmeaibppkhmaaDoorV8
import Derived.Test.YthkmeaibppkhmaaDoorL11
namespace Go.Proofs.YthkmeaibppkhmaaDoor
open Go.RowKit
set_option maxRecDepth 100000

theorem levels_1 (V M : Option Addr) (q1 q2 : Nat) (vals : List (Int × Int)) (miss : List Int) (lag b t : Int) (w : World) (hT : Tab w) (hf : fewB vals.length miss.length = false) :
    Calls Tryd.prog 12 #[.agg #[.slice V vals.length q1, .slice M miss.length q2], .int .i64 lag, .agg #[.int .i64 b, .int .i64 t]] w fun r w' => r = .returned (.bool true) ∧ Below w.heap.size w w' := by
  have HF := hide (fun W => fewLine_c V M vals.length miss.length q1 q2 W)
  rw [hf] at HF
  clear hf
  go_enter Tryd.func12, Tryd.ntmps12
  go_upto_region 1 with fail
  obtain ⟨W, hW⟩ : ∃ W, (w.alloc (.cells #[.slice V vals.length q1, .slice M miss.length q2] 89)).alloc (.cells #[.int .i64 b, .int .i64 t] 105) = W := ⟨_, rfl⟩
  have hwW : Below w.heap.size w W := by rw [← hW]; exact (alloc_bel _ _).alloc (by simp) _
  have hX : Blk W w.heap.size 89 [.slice V vals.length q1, .slice M miss.length q2] := by rw [← hW]; exact (Blk.new w _ [_, _]).bel (alloc_bel _ _)
  have hR : Blk W (w.heap.size + 1) 105 [.int .i64 b, .int .i64 t] := by rw [← hW]; exact Blk.two w 89 105 [.slice V vals.length q1, .slice M miss.length q2] [.int .i64 b, .int .i64 t]
  rw [hW]
  clear hW
  obtain ⟨p, hp⟩ : ∃ p, w.heap.size + 1 = p := ⟨_, rfl⟩
  rw [hp] at hR ⊢
  have hTW := hT.bel hwW
  have hxl := hX.lt
  have hrl := hR.lt
  have c0 := hX.cell 0; have c1 := hX.cell 1; simp only [List.getElem?_cons_zero, List.getElem?_cons_succ] at c0 c1
  have r0 := hR.cell 0; have r1 := hR.cell 1; simp only [List.getElem?_cons_zero, List.getElem?_cons_succ] at r0 r1
  clear hX hR hp hT
  go_wp2_with (first
    | (go_at_call 15; refine (awake_c _ hTW).mono ?_; rintro e w1 ⟨rfl, hb1⟩; have k1 := (kp hb1).1)
    | (go_at_call 66; refine (HF.out _).mono ?_; rintro e w2 ⟨rfl, hb2⟩; have hB2 := bel_tr hb1 hb1.size hb2; have k2 := (kp hB2).1)
    )
  go_ret
  exact ⟨rfl, bel_tr hwW hwW.size hB2⟩



set_option maxHeartbeats 8000000 in
theorem levels_few (V M : Option Addr) (q1 q2 : Nat) (vals : List (Int × Int)) (miss : List Int) (lag b t : Int) (w : World) (hT : Tab w) (hs : Rd w V (gs vals)) (hr : Rd w M (ints miss)) (hf : fewB vals.length miss.length = true)
    (xl xh ev nv fv gv LE RE BE : Int) (P : List Int) (hPl : P.length ≤ 1000)
    (HLV : Hid (∀ (V' M' : Option Addr) (e f : Nat) W, Rd W V' (gs vals) → Rd W M' (ints miss) → Calls Tryd.prog 71 #[.agg #[.slice V' vals.length e, .slice M' miss.length f], .int .i64 lag, .int .i64 b] W fun r w' => r = .returned (.tuple #[.agg #[.int .i64 xl, .int .i64 xh], .int .i64 ev]) ∧ Below W.heap.size W w'))
    (HAN : Hid (∀ (V' M' : Option Addr) (e f : Nat) W, Rd W V' (gs vals) → Rd W M' (ints miss) → Calls Tryd.prog 72 #[.agg #[.slice V' vals.length e, .slice M' miss.length f], .int .i64 lag, .agg #[.int .i64 b, .int .i64 t]] W fun r w' => r = .returned (.tuple #[.int .i64 nv, .int .i64 fv]) ∧ Below W.heap.size W w'))
    (HPK : Hid (∀ (V' M' : Option Addr) (e f : Nat) W, Rd W V' (gs vals) → Rd W M' (ints miss) → Calls Tryd.prog 73 #[.agg #[.slice V' vals.length e, .slice M' miss.length f], .agg #[.int .i64 b, .int .i64 t]] W fun r w' => (∃ A c, r = .returned (.tuple #[.slice A P.length c, .int .i64 gv]) ∧ RdT w' 3 A (ints P)) ∧ Below W.heap.size W w'))
    (HLE : Hid (∀ W, Rd W V (gs vals) → Rd W M (ints miss) → Calls Tryd.prog 69 #[.agg #[.slice V vals.length q1, .slice M miss.length q2]] W fun r w' => r = .returned (.int .i64 LE) ∧ Below W.heap.size W w'))
    (HRU : Hid (∀ W, Calls Tryd.prog 74 #[.agg #[.int .i64 b, .int .i64 t]] W fun r w' => r = .returned (.int .i64 RE) ∧ Below W.heap.size W w'))
    (HBU : Hid (∀ W, Calls Tryd.prog 75 #[.int .i64 b] W fun r w' => r = .returned (.int .i64 BE) ∧ W = w'))
    (HRP : Hid (LE = 0 → RE = 0 → ∀ W, Rd W V (gs vals) → Rd W M (ints miss) → Calls Tryd.prog 76 #[.agg #[.slice V vals.length q1, .slice M miss.length q2], .agg #[.int .i64 b, .int .i64 t]] W fun r w' => (∃ A c, r = .returned (.slice A P.length c) ∧ RdT w' 3 A (ints P)) ∧ Below W.heap.size W w'))
    (HRL : Hid (LE = 0 → outB lag 0 ((vals.length : Int) - 1) = false → BE = 0 → ∀ W, Rd W V (gs vals) → Rd W M (ints miss) → Calls Tryd.prog 77 #[.agg #[.slice V vals.length q1, .slice M miss.length q2], .int .i64 lag, .int .i64 b] W fun r w' => r = .returned (.agg #[.int .i64 xl, .int .i64 xh]) ∧ Below W.heap.size W w'))
    (HRA : Hid (LE = 0 → outB lag 0 ((vals.length : Int) - 1) = false → RE = 0 → ∀ W, Rd W V (gs vals) → Rd W M (ints miss) → Calls Tryd.prog 78 #[.agg #[.slice V vals.length q1, .slice M miss.length q2], .int .i64 lag, .agg #[.int .i64 b, .int .i64 t]] W fun r w' => r = .returned (.int .i64 nv) ∧ Below W.heap.size W w'))
    (S1 : Hid (LE ≠ 0 → (ev = LE ∧ fv = LE ∧ gv = LE) ∧ (xl = 0 ∧ xh = 0) ∧ nv = 0 ∧ P = []))
    (S2 : Hid (LE = 0 → RE ≠ 0 → gv = RE ∧ P = [])) (S3 : Hid (LE = 0 → RE = 0 → gv = 0))
    (S4 : Hid (LE = 0 → outB lag 0 ((vals.length : Int) - 1) = true → (ev = 6 ∧ fv = 6) ∧ (xl = 0 ∧ xh = 0) ∧ nv = 0))
    (S5 : Hid (LE = 0 → outB lag 0 ((vals.length : Int) - 1) = false → BE ≠ 0 → ev = BE ∧ xl = 0 ∧ xh = 0))
    (S6 : Hid (LE = 0 → outB lag 0 ((vals.length : Int) - 1) = false → BE = 0 → ev = 0))
    (S7 : Hid (LE = 0 → outB lag 0 ((vals.length : Int) - 1) = false → RE ≠ 0 → fv = RE ∧ nv = 0))
    (S8 : Hid (LE = 0 → outB lag 0 ((vals.length : Int) - 1) = false → RE = 0 → fv = 0)) (S9 : Hid (RE = 0 → BE = 0)) :
    Calls Tryd.prog 12 #[.agg #[.slice V vals.length q1, .slice M miss.length q2], .int .i64 lag, .agg #[.int .i64 b, .int .i64 t]] w fun r w' => r = .returned (.bool true) ∧ Below w.heap.size w w' := by
  have hq : vals.length ≤ 70 ∧ miss.length ≤ 70 := by simpa [fewB] using hf
  have HF := hide (fun W => fewLine_c V M vals.length miss.length q1 q2 W)
  rw [hf] at HF
  have HCP := hide (fun W h1 h2 => copyLine_c V M q1 q2 vals miss W h1 h2 (by omega) (by omega))
  clear hf
  go_enter Tryd.func12, Tryd.ntmps12
  go_upto_region 1 with fail
  obtain ⟨W, hW⟩ : ∃ W, (w.alloc (.cells #[.slice V vals.length q1, .slice M miss.length q2] 89)).alloc (.cells #[.int .i64 b, .int .i64 t] 105) = W := ⟨_, rfl⟩
  have hwW : Below w.heap.size w W := by rw [← hW]; exact (alloc_bel _ _).alloc (by simp) _
  have hX : Blk W w.heap.size 89 [.slice V vals.length q1, .slice M miss.length q2] := by rw [← hW]; exact (Blk.new w _ [_, _]).bel (alloc_bel _ _)
  have hR : Blk W (w.heap.size + 1) 105 [.int .i64 b, .int .i64 t] := by rw [← hW]; exact Blk.two w 89 105 [.slice V vals.length q1, .slice M miss.length q2] [.int .i64 b, .int .i64 t]
  rw [hW]
  clear hW
  obtain ⟨p, hp⟩ : ∃ p, w.heap.size + 1 = p := ⟨_, rfl⟩
  rw [hp] at hR ⊢
  have hTW := hT.bel hwW
  have hxl := hX.lt
  have hrl := hR.lt
  have c0 := hX.cell 0; have c1 := hX.cell 1; simp only [List.getElem?_cons_zero, List.getElem?_cons_succ] at c0 c1
  have r0 := hR.cell 0; have r1 := hR.cell 1; simp only [List.getElem?_cons_zero, List.getElem?_cons_succ] at r0 r1
  clear hX hR hp hT
  have hsW := hs.bel hwW
  have hrW := hr.bel hwW
  clear hs hr
  go_upto_region 5 with (first
    | (go_at_call 15; refine (awake_c _ hTW).mono ?_; rintro e w1 ⟨rfl, hb1⟩; have k1 := (kp hb1).1)
    | (go_at_call 66; refine (HF.out _).mono ?_; rintro e w2 ⟨rfl, hb2⟩; have hB2 := bel_tr hb1 hb1.size hb2; have k2 := (kp hB2).1)
    )
  have s2 := hB2.size
  go_cut [7, 8] from 21 to 29 (fun t7 t8 wx => ∃ X : Nat, t7 = .pointer (some ⟨X, 0, none⟩) ∧ t8 = .int .i64 ev ∧ W.heap.size ≤ X ∧ Blk wx X 107 [.int .i64 xl, .int .i64 xh] ∧ Below W.heap.size W wx)
  case first =>
    go_region_held3 (fun w' => (∀ b o, b < W.heap.size → w'.cell? ⟨b, o, none⟩ = W.cell? ⟨b, o, none⟩) ∧ Below W.heap.size W w')
      ((refine kp ?_; (repeat' (first | with_reducible exact Below.refl _ _ | with_reducible exact HB5.out | with_reducible exact HB4.out | with_reducible exact hB2 | with_reducible refine Below.drew ?_ | with_reducible refine bel_alloc ?_ ?_ _ | with_reducible refine Below.setCell ?_ ?_ _)); all_goals (first | omega | (simp <;> omega))))
      (first
        | (go_at_call 68; refine (HCP.out _ (hsW.bel (by (repeat' (first | with_reducible exact Below.refl _ _ | with_reducible exact HB5.out | with_reducible exact HB4.out | with_reducible exact hB2 | with_reducible refine Below.drew ?_ | with_reducible refine bel_alloc ?_ ?_ _ | with_reducible refine Below.setCell ?_ ?_ _)); all_goals (first | omega | (simp <;> omega)))) (hrW.bel (by (repeat' (first | with_reducible exact Below.refl _ _ | with_reducible exact HB5.out | with_reducible exact HB4.out | with_reducible exact hB2 | with_reducible refine Below.drew ?_ | with_reducible refine bel_alloc ?_ ?_ _ | with_reducible refine Below.setCell ?_ ?_ _)); all_goals (first | omega | (simp <;> omega))))).mono ?_; rintro e w4 ⟨⟨V4, e4, M4, f4, rfl, hV4, hM4⟩, hb4⟩; have HB4 : Hid (Below W.heap.size W w4) := (by refine bel_tr ?_ ?_ hb4; (repeat' (first | with_reducible exact Below.refl _ _ | with_reducible exact HB5.out | with_reducible exact HB4.out | with_reducible exact hB2 | with_reducible refine Below.drew ?_ | with_reducible refine bel_alloc ?_ ?_ _ | with_reducible refine Below.setCell ?_ ?_ _)); all_goals (first | omega | (simp <;> omega))); have s4 := HB4.out.size)
        | (go_at_call 71; refine (HLV.out V4 M4 e4 f4 _ (hV4.bel (by (repeat' (first | with_reducible exact Below.refl _ _ | with_reducible refine Below.drew ?_ | with_reducible refine bel_alloc ?_ ?_ _)); all_goals (first | omega | (simp <;> omega)))).1 (hM4.bel (by (repeat' (first | with_reducible exact Below.refl _ _ | with_reducible refine Below.drew ?_ | with_reducible refine bel_alloc ?_ ?_ _)); all_goals (first | omega | (simp <;> omega)))).1).mono ?_; rintro e w5 ⟨rfl, hb5⟩; have HB5 : Hid (Below W.heap.size W w5) := (by refine bel_tr ?_ ?_ hb5; (repeat' (first | with_reducible exact Below.refl _ _ | with_reducible exact HB5.out | with_reducible exact HB4.out | with_reducible exact hB2 | with_reducible refine Below.drew ?_ | with_reducible refine bel_alloc ?_ ?_ _ | with_reducible refine Below.setCell ?_ ?_ _)); all_goals (first | omega | (simp <;> omega))); have s5 := HB5.out.size; (try (refine (have B3 : Blk w5 (w2.heap.size) 107 [.int .i64 0, .int .i64 0] := ?_; ?_); (focus ((repeat' (first | with_reducible exact Blk.new _ _ [_, _] | with_reducible refine Blk.set2 (a := .int .i64 0) (b := .int .i64 0) ?_ _ _ | with_reducible refine Blk.dr ?_ | with_reducible refine Blk.bel ?_ (alloc_bel _ _) | with_reducible refine Blk.bel ?_ hb5 | with_reducible refine Blk.bel ?_ hb4)); done)); have c30 := B3.cell 0; have c31 := B3.cell 1; simp only [List.getElem?_cons_zero, List.getElem?_cons_succ] at c30 c31; have d30 := B3.frozen 0; have d31 := B3.frozen 1; clear B3)); (try (refine (have B4 : Blk w5 (w4.heap.size) 107 [.int .i64 0, .int .i64 0] := ?_; ?_); (focus ((repeat' (first | with_reducible exact Blk.new _ _ [_, _] | with_reducible refine Blk.set2 (a := .int .i64 0) (b := .int .i64 0) ?_ _ _ | with_reducible refine Blk.dr ?_ | with_reducible refine Blk.bel ?_ (alloc_bel _ _) | with_reducible refine Blk.bel ?_ hb5 | with_reducible refine Blk.bel ?_ hb4)); done)); have c40 := B4.cell 0; have c41 := B4.cell 1; simp only [List.getElem?_cons_zero, List.getElem?_cons_succ] at c40 c41; have d40 := B4.frozen 0; have d41 := B4.frozen 1; clear B4))))
    all_goals
      go_wp2
      go_meet
      refine ⟨_, rfl, rfl, by first | omega | (simp <;> omega), ?_, ?_⟩
      · (repeat' (first | with_reducible exact Blk.new _ _ [_, _] | with_reducible refine Blk.set2 (a := .int .i64 0) (b := .int .i64 0) ?_ _ _ | with_reducible refine Blk.dr ?_ | with_reducible refine Blk.bel ?_ (alloc_bel _ _) | with_reducible refine Blk.bel ?_ hb5 | with_reducible refine Blk.bel ?_ hb4))
      · (repeat' (first | with_reducible exact Below.refl _ _ | with_reducible exact HB5.out | with_reducible exact HB4.out | with_reducible exact hB2 | with_reducible refine Below.drew ?_ | with_reducible refine bel_alloc ?_ ?_ _ | with_reducible refine Below.setCell ?_ ?_ _)); all_goals (first | omega | (simp <;> omega))
  obtain ⟨X, rfl, rfl, hWX, hX7, hB7⟩ := hcut
  obtain ⟨w7, hw7⟩ : ∃ w7 : World, wc = w7 := ⟨_, rfl⟩
  rw [hw7] at hX7 hB7 ⊢
  clear hw7 k1 k2 s2 HLV
  go_upto_region 6 with fail
  go_region_held3 (fun w' => (∀ b o, b < W.heap.size → w'.cell? ⟨b, o, none⟩ = W.cell? ⟨b, o, none⟩) ∧ Below W.heap.size W w')
    (first | with_reducible exact kp hB7.drew | with_reducible exact kp HB8.out | with_reducible exact kp HB9.out)
    (first
      | (go_at_call 68; refine (HCP.out _ (hsW.bel hB7.drew) (hrW.bel hB7.drew)).mono ?_; rintro e w8 ⟨⟨V8, e8, M8, f8, rfl, hV8, hM8⟩, hb8⟩; have HB8 := hide (bel_tr hB7.drew hB7.drew.size hb8); have hX8 := (show Blk w7.drew X 107 [.int .i64 xl, .int .i64 xh] from hX7).bel hb8)
      | (go_at_call 72; refine (HAN.out V8 M8 e8 f8 _ hV8.1 hM8.1).mono ?_; rintro e w9 ⟨rfl, hb9⟩; have HB9 := hide (bel_tr HB8.out HB8.out.size hb9); have hX9 := hX8.bel hb9))
  go_upto_region 7 with fail
  have hB9 := HB9.out
  clear HB8 HB9 hX7 hX8 hV8 hM8 hb8 hb9 HAN
  go_region_held3 (fun w' => (∀ b o, b < W.heap.size → w'.cell? ⟨b, o, none⟩ = W.cell? ⟨b, o, none⟩) ∧ Below W.heap.size W w')
    (first | with_reducible exact kp hB9.drew | with_reducible exact kp HB10.out | with_reducible exact kp HB11.out)
    (first
      | (go_at_call 68; refine (HCP.out _ (hsW.bel hB9.drew) (hrW.bel hB9.drew)).mono ?_; rintro e w10 ⟨⟨V10, e10, M10, f10, rfl, hV10, hM10⟩, hb10⟩; have HB10 := hide (bel_tr hB9.drew hB9.drew.size hb10); have hX10 := (show Blk w9.drew X 107 [.int .i64 xl, .int .i64 xh] from hX9).bel hb10)
      | (go_at_call 73; refine (HPK.out V10 M10 e10 f10 _ hV10.1 hM10.1).mono ?_; rintro e w11 ⟨⟨PA, pc, rfl, hPA⟩, hb11⟩; have HB11 := hide (bel_tr HB10.out HB10.out.size hb11); have hX11 := hX10.bel hb11))
  go_upto_region 8 with fail
  have hB11 := HB11.out
  clear HB10 HB11 hX9 hX10 hV10 hM10 hb10 hb11 HPK HCP
  have k11 := (kp hB11).1
  go_upto_region 9 with (first | (go_at_call 69; refine (HLE.out _ (hsW.bel hB11) (hrW.bel hB11)).mono ?_; rintro e w12 ⟨rfl, hb12⟩))
  have hB12 := bel_tr hB11 hB11.size hb12
  have hX12 := hX11.bel hb12
  have hP12 := hPA.bel hb12
  have k12 := (kp hB12).1
  have xlt := hX12.lt
  clear k11 hX11 hPA hb12 hB11 HLE
  have x0 := hX12.cell 0; have x1 := hX12.cell 1; simp only [List.getElem?_cons_zero, List.getElem?_cons_succ] at x0 x1
  by_cases d1 : LE = 0
  · have q1 : (LE != 0) = false := by simpa using d1
    go_upto_region 11 with fail
    have hB13 := hB12.drew
    go_region_held3 (fun w' => (∀ b o, b < W.heap.size → w'.cell? ⟨b, o, none⟩ = W.cell? ⟨b, o, none⟩) ∧ Below W.heap.size W w')
      (first | with_reducible exact kp hB13 | with_reducible exact kp HB14.out)
      (first
        | (go_at_call 74; refine (HRU.out _).mono ?_; rintro e w14 ⟨rfl, hb14⟩; have HB14 := hide (bel_tr hB13 hB13.size hb14); have hX14 := (show Blk w12.drew X 107 [.int .i64 xl, .int .i64 xh] from hX12).bel hb14; have hP14 := (hP12.dr).bel hb14)
        | (go_at_call 75; refine (HBU.out _).mono ?_; rintro e_ w_ ⟨rfl, rfl⟩))
    go_upto_region 12 with fail
    have hB14 := HB14.out
    clear HB14 hB13 hX12 hP12 hb14 k12 x0 x1 xlt hB12 HRU HBU
    have k14 := (kp hB14).1
    have xlt := hX14.lt
    have x0 := hX14.cell 0; have x1 := hX14.cell 1; simp only [List.getElem?_cons_zero, List.getElem?_cons_succ] at x0 x1
    cases d2 : outB lag 0 ((vals.length : Int) - 1)
    · by_cases d3 : RE = 0
      · have h6 := S3.out d1 d3
        have d4 := S9.out d3
        have h1 := S6.out d1 d2 d4
        have h2 := S8.out d1 d2 d3
        have HP := hide (HRP.out d1 d3)
        have HL := hide (HRL.out d1 d2 d4)
        have HA := hide (HRA.out d1 d2 d3)
        have HW := hide (fun W' => within_c lag 0 ((vals.length : Int) - 1) W')
        rw [d2] at HW
        clear d1 d2 S1 S2 S3 S4 S5 S6 S7 S8 S9 HRP HRL HRA
        subst h1 h2 h6 d3 d4
        have q2 : ((0 : Int) != 0) = false := rfl
        go_upto_region 16 with (first
          | (go_at_call 76; refine (HP.out _ (hsW.bel hB14) (hrW.bel hB14)).mono ?_; rintro e w15 ⟨⟨PB, pd, rfl, hPB⟩, hb15⟩; have hB15 := bel_tr hB14 hB14.size hb15; have hX15 := hX14.bel hb15; have hP15 := hP14.bel hb15)
          | (go_at_call 31; refine (ints_same P PA PB pc pd _ hP15.1 hPB.1 hPl).mono ?_; rintro e w16 ⟨rfl, hb16⟩; have hB16 := bel_tr hB15 hB15.size hb16; have hX16 := hX15.bel hb16; have k16 := (kp hB16).1; have xlt2 := hX16.lt; have x0 := hX16.cell 0; have x1 := hX16.cell 1; simp only [List.getElem?_cons_zero, List.getElem?_cons_succ] at x0 x1)
          | (go_at_call 26; refine (HW.out _).mono ?_; rintro e_ w_ ⟨rfl, rfl⟩))
        have hsz1 : w.heap.size < w16.heap.size := by have := hB16.size; omega
        have hsz2 : p < w16.heap.size := by have := hB16.size; omega
        refine wp_region_held (S := fun w' => (∀ b o, b < w16.heap.size → w'.cell? ⟨b, o, none⟩ = w16.cell? ⟨b, o, none⟩) ∧ Below w16.heap.size w16 w') (by kernel_rfl) ?_
        have hSd := kp_refl w16
        change wpAnyH _ _ _ _ _ _ _ _ w16.drew
        refine wpAnyH_take (i := 0) (v := ?_) rfl (by kernel_rfl) (by kernel_rfl) (by kernel_rfl) (fun _ _ _ h => h) (Or.inl ⟨by kernel_rfl, ?_⟩) (by assumption) ?_
        rotate_left 1
        · (intro w hSw; (try dsimp only at hSw); go_simp <;> with_reducible rfl)
        simp only [Act.put, List.getElem_toArray, List.getElem_cons_zero, List.setIfInBounds_toArray, List.set_cons_zero, List.set_cons_succ]
        refine wpAnyH_take (i := 1) (v := ?_) rfl (by kernel_rfl) (by kernel_rfl) (by kernel_rfl) (fun _ _ _ h => h) (Or.inl ⟨by kernel_rfl, ?_⟩) (by assumption) ?_
        rotate_left 1
        · (intro w hSw; (try dsimp only at hSw); go_simp <;> with_reducible rfl)
        simp only [Act.put, List.getElem_toArray, List.getElem_cons_zero, List.getElem_cons_succ, List.setIfInBounds_toArray, List.set_cons_zero, List.set_cons_succ]
        refine wpAnyH_take (i := 2) (v := ?_) rfl (by kernel_rfl) (by kernel_rfl) (by kernel_rfl) (fun _ _ _ h => h) (Or.inl ⟨by kernel_rfl, ?_⟩) (by assumption) ?_
        rotate_left 1
        · (intro w hSw; (try dsimp only at hSw); go_simp <;> with_reducible rfl)
        simp only [Act.put, List.getElem_toArray, List.getElem_cons_zero, List.getElem_cons_succ, List.setIfInBounds_toArray, List.set_cons_zero, List.set_cons_succ]
        refine wpAnyH_take (i := 3) (v := undef) rfl (by kernel_rfl) (by kernel_rfl) (by kernel_rfl) (fun _ _ _ h => h) (Or.inr ⟨by kernel_rfl, rfl⟩) (by assumption) ?_
        simp only [Act.put, List.getElem_toArray, List.getElem_cons_zero, List.getElem_cons_succ, List.setIfInBounds_toArray, List.set_cons_zero, List.set_cons_succ]
        refine wpAnyH_take (i := 4) (v := undef) rfl (by kernel_rfl) (by kernel_rfl) (by kernel_rfl) (fun _ _ _ h => h) (Or.inr ⟨by kernel_rfl, rfl⟩) (by assumption) ?_
        simp only [Act.put, List.getElem_toArray, List.getElem_cons_zero, List.getElem_cons_succ, List.setIfInBounds_toArray, List.set_cons_zero, List.set_cons_succ]
        refine wpAnyH_take (i := 5) (v := undef) rfl (by kernel_rfl) (by kernel_rfl) (by kernel_rfl) (fun _ _ _ h => h) (Or.inr ⟨by kernel_rfl, rfl⟩) (by assumption) ?_
        simp only [Act.put, List.getElem_toArray, List.getElem_cons_zero, List.getElem_cons_succ, List.setIfInBounds_toArray, List.set_cons_zero, List.set_cons_succ]
        refine wpAnyH_take (i := 6) (v := undef) rfl (by kernel_rfl) (by kernel_rfl) (by kernel_rfl) (fun _ _ _ h => h) (Or.inr ⟨by kernel_rfl, rfl⟩) (by assumption) ?_
        simp only [Act.put, List.getElem_toArray, List.getElem_cons_zero, List.getElem_cons_succ, List.setIfInBounds_toArray, List.set_cons_zero, List.set_cons_succ]
        refine wpAnyH_take (i := 7) (v := undef) rfl (by kernel_rfl) (by kernel_rfl) (by kernel_rfl) (fun _ _ _ h => h) (Or.inr ⟨by kernel_rfl, rfl⟩) (by assumption) ?_
        simp only [Act.put, List.getElem_toArray, List.getElem_cons_zero, List.getElem_cons_succ, List.setIfInBounds_toArray, List.set_cons_zero, List.set_cons_succ]
        refine wpAnyH_take (i := 8) (v := undef) rfl (by kernel_rfl) (by kernel_rfl) (by kernel_rfl) (fun _ _ _ h => h) (Or.inr ⟨by kernel_rfl, rfl⟩) (by assumption) ?_
        simp only [Act.put, List.getElem_toArray, List.getElem_cons_zero, List.getElem_cons_succ, List.setIfInBounds_toArray, List.set_cons_zero, List.set_cons_succ]
        refine wpAnyH_take (i := 9) (v := undef) rfl (by kernel_rfl) (by kernel_rfl) (by kernel_rfl) (fun _ _ _ h => h) (Or.inr ⟨by kernel_rfl, rfl⟩) (by assumption) ?_
        simp only [Act.put, List.getElem_toArray, List.getElem_cons_zero, List.getElem_cons_succ, List.setIfInBounds_toArray, List.set_cons_zero, List.set_cons_succ]
        refine wpAnyH_take (i := 10) (v := undef) rfl (by kernel_rfl) (by kernel_rfl) (by kernel_rfl) (fun _ _ _ h => h) (Or.inr ⟨by kernel_rfl, rfl⟩) (by assumption) ?_
        simp only [Act.put, List.getElem_toArray, List.getElem_cons_zero, List.getElem_cons_succ, List.setIfInBounds_toArray, List.set_cons_zero, List.set_cons_succ]
        refine wpAnyH_take (i := 11) (v := ?_) rfl (by kernel_rfl) (by kernel_rfl) (by kernel_rfl) (fun _ _ _ h => h) (Or.inl ⟨by kernel_rfl, ?_⟩) (by assumption) ?_
        rotate_left 1
        · (intro w hSw; (try dsimp only at hSw); go_simp <;> with_reducible rfl)
        simp only [Act.put, List.getElem_toArray, List.getElem_cons_zero, List.getElem_cons_succ, List.setIfInBounds_toArray, List.set_cons_zero, List.set_cons_succ]
        refine wpAnyH_take (i := 12) (v := ?_) rfl (by kernel_rfl) (by kernel_rfl) (by kernel_rfl) (fun _ _ _ h => h) (Or.inl ⟨by kernel_rfl, ?_⟩) (by assumption) ?_
        rotate_left 1
        · (intro w hSw; (try dsimp only at hSw); go_simp <;> with_reducible rfl)
        simp only [Act.put, List.getElem_toArray, List.getElem_cons_zero, List.getElem_cons_succ, List.setIfInBounds_toArray, List.set_cons_zero, List.set_cons_succ]
        refine wpAnyH_take (i := 13) (v := ?_) rfl (by kernel_rfl) (by kernel_rfl) (by kernel_rfl) (fun _ _ _ h => h) (Or.inl ⟨by kernel_rfl, ?_⟩) (by assumption) ?_
        rotate_left 1
        · (intro w hSw; (try dsimp only at hSw); go_simp <;> with_reducible rfl)
        simp only [Act.put, List.getElem_toArray, List.getElem_cons_zero, List.getElem_cons_succ, List.setIfInBounds_toArray, List.set_cons_zero, List.set_cons_succ]
        refine wpAnyH_take (i := 14) (v := ?_) rfl (by kernel_rfl) (by kernel_rfl) (by kernel_rfl) (fun _ _ _ h => h) (Or.inl ⟨by kernel_rfl, ?_⟩) (by assumption) ?_
        rotate_left 1
        · (intro w hSw; (try dsimp only at hSw); go_simp <;> with_reducible rfl)
        simp only [Act.put, List.getElem_toArray, List.getElem_cons_zero, List.getElem_cons_succ, List.setIfInBounds_toArray, List.set_cons_zero, List.set_cons_succ]
        refine wpAnyH_take (i := 15) (v := ?_) rfl (by kernel_rfl) (by kernel_rfl) (by kernel_rfl) (fun _ _ _ h => h) (Or.inl ⟨by kernel_rfl, ?_⟩) (by assumption) ?_
        rotate_left 1
        · (intro w hSw; (try dsimp only at hSw); go_simp <;> with_reducible rfl)
        simp only [Act.put, List.getElem_toArray, List.getElem_cons_zero, List.getElem_cons_succ, List.setIfInBounds_toArray, List.set_cons_zero, List.set_cons_succ]
        refine wpAnyH_take (i := 16) (v := ?_) rfl (by kernel_rfl) (by kernel_rfl) (by kernel_rfl) (fun _ _ _ h => h) (Or.inl ⟨by kernel_rfl, ?_⟩) (by assumption) ?_
        rotate_left 1
        · (intro w hSw; (try dsimp only at hSw); go_simp <;> with_reducible rfl)
        simp only [Act.put, List.getElem_toArray, List.getElem_cons_zero, List.getElem_cons_succ, List.setIfInBounds_toArray, List.set_cons_zero, List.set_cons_succ]
        refine wpAnyH_take (i := 17) (v := ?_) rfl (by kernel_rfl) (by kernel_rfl) (by kernel_rfl) (fun _ _ _ h => h) (Or.inl ⟨by kernel_rfl, ?_⟩) (by assumption) ?_
        rotate_left 1
        · (intro w hSw; (try dsimp only at hSw); go_simp <;> with_reducible rfl)
        simp only [Act.put, List.getElem_toArray, List.getElem_cons_zero, List.getElem_cons_succ, List.setIfInBounds_toArray, List.set_cons_zero, List.set_cons_succ]
        refine wpAnyH_take (i := 18) (v := ?_) rfl (by kernel_rfl) (by kernel_rfl) (by kernel_rfl) (fun _ _ _ h => h) (Or.inl ⟨by kernel_rfl, ?_⟩) (by assumption) ?_
        rotate_left 1
        · (intro w hSw; (try dsimp only at hSw); go_simp <;> with_reducible rfl)
        simp only [Act.put, List.getElem_toArray, List.getElem_cons_zero, List.getElem_cons_succ, List.setIfInBounds_toArray, List.set_cons_zero, List.set_cons_succ]
        refine wpAnyH_take (i := 19) (v := ?_) rfl (by kernel_rfl) (by kernel_rfl) (by kernel_rfl) (fun _ _ _ h => h) (Or.inl ⟨by kernel_rfl, ?_⟩) (by assumption) ?_
        rotate_left 1
        · (intro w hSw; (try dsimp only at hSw); go_simp <;> with_reducible rfl)
        simp only [Act.put, List.getElem_toArray, List.getElem_cons_zero, List.getElem_cons_succ, List.setIfInBounds_toArray, List.set_cons_zero, List.set_cons_succ]
        refine wpAnyH_take (i := 20) (v := ?_) rfl (by kernel_rfl) (by kernel_rfl) (by kernel_rfl) (fun _ _ _ h => h) (Or.inl ⟨by kernel_rfl, ?_⟩) (by assumption) ?_
        rotate_left 1
        · (intro w hSw; (try dsimp only at hSw); go_simp <;> with_reducible rfl)
        simp only [Act.put, List.getElem_toArray, List.getElem_cons_zero, List.getElem_cons_succ, List.setIfInBounds_toArray, List.set_cons_zero, List.set_cons_succ]
        refine wpAnyH_take (i := 21) (v := ?_) rfl (by kernel_rfl) (by kernel_rfl) (by kernel_rfl) (fun _ _ _ h => h) (Or.inl ⟨by kernel_rfl, ?_⟩) (by assumption) ?_
        rotate_left 1
        · (intro w hSw; (try dsimp only at hSw); go_simp <;> with_reducible rfl)
        simp only [Act.put, List.getElem_toArray, List.getElem_cons_zero, List.getElem_cons_succ, List.setIfInBounds_toArray, List.set_cons_zero, List.set_cons_succ]
        refine wpAnyH_take (i := 22) (v := ?_) rfl (by kernel_rfl) (by kernel_rfl) (by kernel_rfl) (fun _ _ _ h => h) (Or.inl ⟨by kernel_rfl, ?_⟩) (by assumption) ?_
        rotate_left 1
        · (intro w hSw; (try dsimp only at hSw); go_simp <;> with_reducible rfl)
        simp only [Act.put, List.getElem_toArray, List.getElem_cons_zero, List.getElem_cons_succ, List.setIfInBounds_toArray, List.set_cons_zero, List.set_cons_succ]
        refine wpAnyH_take (i := 23) (v := ?_) rfl (by kernel_rfl) (by kernel_rfl) (by kernel_rfl) (fun _ _ _ h => h) (Or.inl ⟨by kernel_rfl, ?_⟩) (by assumption) ?_
        rotate_left 1
        · (intro w hSw; (try dsimp only at hSw); go_simp <;> with_reducible rfl)
        simp only [Act.put, List.getElem_toArray, List.getElem_cons_zero, List.getElem_cons_succ, List.setIfInBounds_toArray, List.set_cons_zero, List.set_cons_succ]
        refine nextH (i := 24) (by kernel_rfl) rfl (fun K hK => ?_)
        go_simp
        refine (HL.out _ (hsW.bel hB16.drew) (hrW.bel hB16.drew)).mono ?_
        rintro e w20 ⟨rfl, hb20⟩
        have hB20 := bel_tr hB16.drew hB16.drew.size hb20
        have hS20 := kp (bel_tr ((Below.refl w16.heap.size w16).drew) (Nat.le_refl _) hb20)
        clear hSd
        have hSd := hS20
        clear hS20
        try dsimp only
        refine hK _ _ hSd ?_
        clear hK K
        refine wpAnyH_take (i := 25) (v := ?_) rfl (by kernel_rfl) (by kernel_rfl) (by kernel_rfl) (fun _ _ _ h => h) (Or.inl ⟨by kernel_rfl, ?_⟩) (by assumption) ?_
        rotate_left 1
        · (intro w hSw; (try dsimp only at hSw); go_simp <;> with_reducible rfl)
        simp only [Act.put, List.getElem_toArray, List.getElem_cons_zero, List.getElem_cons_succ, List.setIfInBounds_toArray, List.set_cons_zero, List.set_cons_succ]
        refine wpAnyH_take (i := 26) (v := ?_) rfl (by kernel_rfl) (by kernel_rfl) (by kernel_rfl) (fun _ _ _ h => h) (Or.inl ⟨by kernel_rfl, ?_⟩) (by assumption) ?_
        rotate_left 1
        · (intro w hSw; (try dsimp only at hSw); go_simp <;> with_reducible rfl)
        simp only [Act.put, List.getElem_toArray, List.getElem_cons_zero, List.getElem_cons_succ, List.setIfInBounds_toArray, List.set_cons_zero, List.set_cons_succ]
        refine wpAnyH_take (i := 27) (v := ?_) rfl (by kernel_rfl) (by kernel_rfl) (by kernel_rfl) (fun _ _ _ h => h) (Or.inl ⟨by kernel_rfl, ?_⟩) (by assumption) ?_
        rotate_left 1
        · (intro w hSw; (try dsimp only at hSw); go_simp <;> with_reducible rfl)
        simp only [Act.put, List.getElem_toArray, List.getElem_cons_zero, List.getElem_cons_succ, List.setIfInBounds_toArray, List.set_cons_zero, List.set_cons_succ]
        refine wpAnyH_take (i := 28) (v := ?_) rfl (by kernel_rfl) (by kernel_rfl) (by kernel_rfl) (fun _ _ _ h => h) (Or.inl ⟨by kernel_rfl, ?_⟩) (by assumption) ?_
        rotate_left 1
        · (intro w hSw; (try dsimp only at hSw); go_simp <;> with_reducible rfl)
        simp only [Act.put, List.getElem_toArray, List.getElem_cons_zero, List.getElem_cons_succ, List.setIfInBounds_toArray, List.set_cons_zero, List.set_cons_succ]
        refine wpAnyH_done (by kernel_rfl) ?_ _
        clear hSd
        have k20 := (kp hB20).1
        go_wp2_with (first
          | (go_at_call 78; refine (HA.out _ (hsW.bel hB20) (hrW.bel hB20)).mono ?_; rintro e w21 ⟨rfl, hb21⟩; have hB21 := bel_tr hB20 hB20.size hb21))
        go_ret
        exact ⟨rfl, bel_tr hwW hwW.size hB21⟩
      · obtain ⟨h6, h7⟩ := S2.out d1 d3
        obtain ⟨h8, h9⟩ := S7.out d1 d2 d3
        have q2 : (RE != 0) = true := by simpa using d3
        have q3 : (RE == 0) = false := by simpa using d3
        have HW := hide (fun W' => within_c lag 0 ((vals.length : Int) - 1) W')
        rw [d2] at HW
        by_cases d4 : BE = 0
        · have h1 := S6.out d1 d2 d4
          have HL := hide (HRL.out d1 d2 d4)
          clear d1 d2 d3 S1 S2 S3 S4 S5 S6 S7 S8 S9 HRP HRL HRA
          subst h1 h7 d4 h9
          rw [h6, h8]
          clear h6 h8
          go_upto_region 16 with (first
            | (go_at_call 26; refine (HW.out _).mono ?_; rintro e_ w_ ⟨rfl, rfl⟩))
          have hsz1 : w.heap.size < w14.heap.size := by have := hB14.size; omega
          have hsz2 : p < w14.heap.size := by have := hB14.size; omega
          refine wp_region_held (S := fun w' => (∀ b o, b < w14.heap.size → w'.cell? ⟨b, o, none⟩ = w14.cell? ⟨b, o, none⟩) ∧ Below w14.heap.size w14 w') (by kernel_rfl) ?_
          have hSd := kp_refl w14
          change wpAnyH _ _ _ _ _ _ _ _ w14.drew
          refine wpAnyH_take (i := 0) (v := ?_) rfl (by kernel_rfl) (by kernel_rfl) (by kernel_rfl) (fun _ _ _ h => h) (Or.inl ⟨by kernel_rfl, ?_⟩) (by assumption) ?_
          rotate_left 1
          · (intro w hSw; (try dsimp only at hSw); go_simp <;> with_reducible rfl)
          simp only [Act.put, List.getElem_toArray, List.getElem_cons_zero, List.setIfInBounds_toArray, List.set_cons_zero, List.set_cons_succ]
          refine wpAnyH_take (i := 1) (v := ?_) rfl (by kernel_rfl) (by kernel_rfl) (by kernel_rfl) (fun _ _ _ h => h) (Or.inl ⟨by kernel_rfl, ?_⟩) (by assumption) ?_
          rotate_left 1
          · (intro w hSw; (try dsimp only at hSw); go_simp <;> with_reducible rfl)
          simp only [Act.put, List.getElem_toArray, List.getElem_cons_zero, List.getElem_cons_succ, List.setIfInBounds_toArray, List.set_cons_zero, List.set_cons_succ]
          refine wpAnyH_take (i := 2) (v := ?_) rfl (by kernel_rfl) (by kernel_rfl) (by kernel_rfl) (fun _ _ _ h => h) (Or.inl ⟨by kernel_rfl, ?_⟩) (by assumption) ?_
          rotate_left 1
          · (intro w hSw; (try dsimp only at hSw); go_simp <;> with_reducible rfl)
          simp only [Act.put, List.getElem_toArray, List.getElem_cons_zero, List.getElem_cons_succ, List.setIfInBounds_toArray, List.set_cons_zero, List.set_cons_succ]
          refine wpAnyH_take (i := 3) (v := undef) rfl (by kernel_rfl) (by kernel_rfl) (by kernel_rfl) (fun _ _ _ h => h) (Or.inr ⟨by kernel_rfl, rfl⟩) (by assumption) ?_
          simp only [Act.put, List.getElem_toArray, List.getElem_cons_zero, List.getElem_cons_succ, List.setIfInBounds_toArray, List.set_cons_zero, List.set_cons_succ]
          refine wpAnyH_take (i := 4) (v := undef) rfl (by kernel_rfl) (by kernel_rfl) (by kernel_rfl) (fun _ _ _ h => h) (Or.inr ⟨by kernel_rfl, rfl⟩) (by assumption) ?_
          simp only [Act.put, List.getElem_toArray, List.getElem_cons_zero, List.getElem_cons_succ, List.setIfInBounds_toArray, List.set_cons_zero, List.set_cons_succ]
          refine wpAnyH_take (i := 5) (v := undef) rfl (by kernel_rfl) (by kernel_rfl) (by kernel_rfl) (fun _ _ _ h => h) (Or.inr ⟨by kernel_rfl, rfl⟩) (by assumption) ?_
          simp only [Act.put, List.getElem_toArray, List.getElem_cons_zero, List.getElem_cons_succ, List.setIfInBounds_toArray, List.set_cons_zero, List.set_cons_succ]
          refine wpAnyH_take (i := 6) (v := undef) rfl (by kernel_rfl) (by kernel_rfl) (by kernel_rfl) (fun _ _ _ h => h) (Or.inr ⟨by kernel_rfl, rfl⟩) (by assumption) ?_
          simp only [Act.put, List.getElem_toArray, List.getElem_cons_zero, List.getElem_cons_succ, List.setIfInBounds_toArray, List.set_cons_zero, List.set_cons_succ]
          refine wpAnyH_take (i := 7) (v := undef) rfl (by kernel_rfl) (by kernel_rfl) (by kernel_rfl) (fun _ _ _ h => h) (Or.inr ⟨by kernel_rfl, rfl⟩) (by assumption) ?_
          simp only [Act.put, List.getElem_toArray, List.getElem_cons_zero, List.getElem_cons_succ, List.setIfInBounds_toArray, List.set_cons_zero, List.set_cons_succ]
          refine wpAnyH_take (i := 8) (v := undef) rfl (by kernel_rfl) (by kernel_rfl) (by kernel_rfl) (fun _ _ _ h => h) (Or.inr ⟨by kernel_rfl, rfl⟩) (by assumption) ?_
          simp only [Act.put, List.getElem_toArray, List.getElem_cons_zero, List.getElem_cons_succ, List.setIfInBounds_toArray, List.set_cons_zero, List.set_cons_succ]
          refine wpAnyH_take (i := 9) (v := undef) rfl (by kernel_rfl) (by kernel_rfl) (by kernel_rfl) (fun _ _ _ h => h) (Or.inr ⟨by kernel_rfl, rfl⟩) (by assumption) ?_
          simp only [Act.put, List.getElem_toArray, List.getElem_cons_zero, List.getElem_cons_succ, List.setIfInBounds_toArray, List.set_cons_zero, List.set_cons_succ]
          refine wpAnyH_take (i := 10) (v := undef) rfl (by kernel_rfl) (by kernel_rfl) (by kernel_rfl) (fun _ _ _ h => h) (Or.inr ⟨by kernel_rfl, rfl⟩) (by assumption) ?_
          simp only [Act.put, List.getElem_toArray, List.getElem_cons_zero, List.getElem_cons_succ, List.setIfInBounds_toArray, List.set_cons_zero, List.set_cons_succ]
          refine wpAnyH_take (i := 11) (v := ?_) rfl (by kernel_rfl) (by kernel_rfl) (by kernel_rfl) (fun _ _ _ h => h) (Or.inl ⟨by kernel_rfl, ?_⟩) (by assumption) ?_
          rotate_left 1
          · (intro w hSw; (try dsimp only at hSw); go_simp <;> with_reducible rfl)
          simp only [Act.put, List.getElem_toArray, List.getElem_cons_zero, List.getElem_cons_succ, List.setIfInBounds_toArray, List.set_cons_zero, List.set_cons_succ]
          refine wpAnyH_take (i := 12) (v := ?_) rfl (by kernel_rfl) (by kernel_rfl) (by kernel_rfl) (fun _ _ _ h => h) (Or.inl ⟨by kernel_rfl, ?_⟩) (by assumption) ?_
          rotate_left 1
          · (intro w hSw; (try dsimp only at hSw); go_simp <;> with_reducible rfl)
          simp only [Act.put, List.getElem_toArray, List.getElem_cons_zero, List.getElem_cons_succ, List.setIfInBounds_toArray, List.set_cons_zero, List.set_cons_succ]
          refine wpAnyH_take (i := 13) (v := ?_) rfl (by kernel_rfl) (by kernel_rfl) (by kernel_rfl) (fun _ _ _ h => h) (Or.inl ⟨by kernel_rfl, ?_⟩) (by assumption) ?_
          rotate_left 1
          · (intro w hSw; (try dsimp only at hSw); go_simp <;> with_reducible rfl)
          simp only [Act.put, List.getElem_toArray, List.getElem_cons_zero, List.getElem_cons_succ, List.setIfInBounds_toArray, List.set_cons_zero, List.set_cons_succ]
          refine wpAnyH_take (i := 14) (v := ?_) rfl (by kernel_rfl) (by kernel_rfl) (by kernel_rfl) (fun _ _ _ h => h) (Or.inl ⟨by kernel_rfl, ?_⟩) (by assumption) ?_
          rotate_left 1
          · (intro w hSw; (try dsimp only at hSw); go_simp <;> with_reducible rfl)
          simp only [Act.put, List.getElem_toArray, List.getElem_cons_zero, List.getElem_cons_succ, List.setIfInBounds_toArray, List.set_cons_zero, List.set_cons_succ]
          refine wpAnyH_take (i := 15) (v := ?_) rfl (by kernel_rfl) (by kernel_rfl) (by kernel_rfl) (fun _ _ _ h => h) (Or.inl ⟨by kernel_rfl, ?_⟩) (by assumption) ?_
          rotate_left 1
          · (intro w hSw; (try dsimp only at hSw); go_simp <;> with_reducible rfl)
          simp only [Act.put, List.getElem_toArray, List.getElem_cons_zero, List.getElem_cons_succ, List.setIfInBounds_toArray, List.set_cons_zero, List.set_cons_succ]
          refine wpAnyH_take (i := 16) (v := ?_) rfl (by kernel_rfl) (by kernel_rfl) (by kernel_rfl) (fun _ _ _ h => h) (Or.inl ⟨by kernel_rfl, ?_⟩) (by assumption) ?_
          rotate_left 1
          · (intro w hSw; (try dsimp only at hSw); go_simp <;> with_reducible rfl)
          simp only [Act.put, List.getElem_toArray, List.getElem_cons_zero, List.getElem_cons_succ, List.setIfInBounds_toArray, List.set_cons_zero, List.set_cons_succ]
          refine wpAnyH_take (i := 17) (v := ?_) rfl (by kernel_rfl) (by kernel_rfl) (by kernel_rfl) (fun _ _ _ h => h) (Or.inl ⟨by kernel_rfl, ?_⟩) (by assumption) ?_
          rotate_left 1
          · (intro w hSw; (try dsimp only at hSw); go_simp <;> with_reducible rfl)
          simp only [Act.put, List.getElem_toArray, List.getElem_cons_zero, List.getElem_cons_succ, List.setIfInBounds_toArray, List.set_cons_zero, List.set_cons_succ]
          refine wpAnyH_take (i := 18) (v := ?_) rfl (by kernel_rfl) (by kernel_rfl) (by kernel_rfl) (fun _ _ _ h => h) (Or.inl ⟨by kernel_rfl, ?_⟩) (by assumption) ?_
          rotate_left 1
          · (intro w hSw; (try dsimp only at hSw); go_simp <;> with_reducible rfl)
          simp only [Act.put, List.getElem_toArray, List.getElem_cons_zero, List.getElem_cons_succ, List.setIfInBounds_toArray, List.set_cons_zero, List.set_cons_succ]
          refine wpAnyH_take (i := 19) (v := ?_) rfl (by kernel_rfl) (by kernel_rfl) (by kernel_rfl) (fun _ _ _ h => h) (Or.inl ⟨by kernel_rfl, ?_⟩) (by assumption) ?_
          rotate_left 1
          · (intro w hSw; (try dsimp only at hSw); go_simp <;> with_reducible rfl)
          simp only [Act.put, List.getElem_toArray, List.getElem_cons_zero, List.getElem_cons_succ, List.setIfInBounds_toArray, List.set_cons_zero, List.set_cons_succ]
          refine wpAnyH_take (i := 20) (v := ?_) rfl (by kernel_rfl) (by kernel_rfl) (by kernel_rfl) (fun _ _ _ h => h) (Or.inl ⟨by kernel_rfl, ?_⟩) (by assumption) ?_
          rotate_left 1
          · (intro w hSw; (try dsimp only at hSw); go_simp <;> with_reducible rfl)
          simp only [Act.put, List.getElem_toArray, List.getElem_cons_zero, List.getElem_cons_succ, List.setIfInBounds_toArray, List.set_cons_zero, List.set_cons_succ]
          refine wpAnyH_take (i := 21) (v := ?_) rfl (by kernel_rfl) (by kernel_rfl) (by kernel_rfl) (fun _ _ _ h => h) (Or.inl ⟨by kernel_rfl, ?_⟩) (by assumption) ?_
          rotate_left 1
          · (intro w hSw; (try dsimp only at hSw); go_simp <;> with_reducible rfl)
          simp only [Act.put, List.getElem_toArray, List.getElem_cons_zero, List.getElem_cons_succ, List.setIfInBounds_toArray, List.set_cons_zero, List.set_cons_succ]
          refine wpAnyH_take (i := 22) (v := ?_) rfl (by kernel_rfl) (by kernel_rfl) (by kernel_rfl) (fun _ _ _ h => h) (Or.inl ⟨by kernel_rfl, ?_⟩) (by assumption) ?_
          rotate_left 1
          · (intro w hSw; (try dsimp only at hSw); go_simp <;> with_reducible rfl)
          simp only [Act.put, List.getElem_toArray, List.getElem_cons_zero, List.getElem_cons_succ, List.setIfInBounds_toArray, List.set_cons_zero, List.set_cons_succ]
          refine wpAnyH_take (i := 23) (v := ?_) rfl (by kernel_rfl) (by kernel_rfl) (by kernel_rfl) (fun _ _ _ h => h) (Or.inl ⟨by kernel_rfl, ?_⟩) (by assumption) ?_
          rotate_left 1
          · (intro w hSw; (try dsimp only at hSw); go_simp <;> with_reducible rfl)
          simp only [Act.put, List.getElem_toArray, List.getElem_cons_zero, List.getElem_cons_succ, List.setIfInBounds_toArray, List.set_cons_zero, List.set_cons_succ]
          refine nextH (i := 24) (by kernel_rfl) rfl (fun K hK => ?_)
          go_simp
          refine (HL.out _ (hsW.bel hB14.drew) (hrW.bel hB14.drew)).mono ?_
          rintro e w20 ⟨rfl, hb20⟩
          have hB20 := bel_tr hB14.drew hB14.drew.size hb20
          have hS20 := kp (bel_tr ((Below.refl w14.heap.size w14).drew) (Nat.le_refl _) hb20)
          clear hSd
          have hSd := hS20
          clear hS20
          try dsimp only
          refine hK _ _ hSd ?_
          clear hK K
          refine wpAnyH_take (i := 25) (v := ?_) rfl (by kernel_rfl) (by kernel_rfl) (by kernel_rfl) (fun _ _ _ h => h) (Or.inl ⟨by kernel_rfl, ?_⟩) (by assumption) ?_
          rotate_left 1
          · (intro w hSw; (try dsimp only at hSw); go_simp <;> with_reducible rfl)
          simp only [Act.put, List.getElem_toArray, List.getElem_cons_zero, List.getElem_cons_succ, List.setIfInBounds_toArray, List.set_cons_zero, List.set_cons_succ]
          refine wpAnyH_take (i := 26) (v := ?_) rfl (by kernel_rfl) (by kernel_rfl) (by kernel_rfl) (fun _ _ _ h => h) (Or.inl ⟨by kernel_rfl, ?_⟩) (by assumption) ?_
          rotate_left 1
          · (intro w hSw; (try dsimp only at hSw); go_simp <;> with_reducible rfl)
          simp only [Act.put, List.getElem_toArray, List.getElem_cons_zero, List.getElem_cons_succ, List.setIfInBounds_toArray, List.set_cons_zero, List.set_cons_succ]
          refine wpAnyH_take (i := 27) (v := ?_) rfl (by kernel_rfl) (by kernel_rfl) (by kernel_rfl) (fun _ _ _ h => h) (Or.inl ⟨by kernel_rfl, ?_⟩) (by assumption) ?_
          rotate_left 1
          · (intro w hSw; (try dsimp only at hSw); go_simp <;> with_reducible rfl)
          simp only [Act.put, List.getElem_toArray, List.getElem_cons_zero, List.getElem_cons_succ, List.setIfInBounds_toArray, List.set_cons_zero, List.set_cons_succ]
          refine wpAnyH_take (i := 28) (v := ?_) rfl (by kernel_rfl) (by kernel_rfl) (by kernel_rfl) (fun _ _ _ h => h) (Or.inl ⟨by kernel_rfl, ?_⟩) (by assumption) ?_
          rotate_left 1
          · (intro w hSw; (try dsimp only at hSw); go_simp <;> with_reducible rfl)
          simp only [Act.put, List.getElem_toArray, List.getElem_cons_zero, List.getElem_cons_succ, List.setIfInBounds_toArray, List.set_cons_zero, List.set_cons_succ]
          refine wpAnyH_done (by kernel_rfl) ?_ _
          clear hSd
          have k20 := (kp hB20).1
          go_wp2
          go_ret
          exact ⟨rfl, bel_tr hwW hwW.size hB20⟩
        · obtain ⟨h1, h3, h4⟩ := S5.out d1 d2 d4
          have q4 : (BE != 0) = true := by simpa using d4
          have q5 : (BE == 0) = false := by simpa using d4
          clear d1 d2 d3 d4 S1 S2 S3 S4 S5 S6 S7 S8 S9 HRP HRL HRA
          subst h7 h3 h4 h9
          rw [h6, h8, h1]
          clear h6 h8 h1
          go_upto_region 16 with (first
            | (go_at_call 26; refine (HW.out _).mono ?_; rintro e_ w_ ⟨rfl, rfl⟩))
          go_quiet (fail)
          go_wp2
          go_ret
          exact ⟨rfl, bel_tr hwW hwW.size (below_drewN hB14 _)⟩
    · obtain ⟨⟨h1, h2⟩, ⟨h3, h4⟩, h5⟩ := S4.out d1 d2
      by_cases d3 : RE = 0
      · have h6 := S3.out d1 d3
        have HP := hide (HRP.out d1 d3)
        have q2 : (RE != 0) = false := by simpa using d3
        have q3 : (RE == 0) = true := by simpa using d3
        have HW := hide (fun W' => within_c lag 0 ((vals.length : Int) - 1) W')
        rw [d2] at HW
        clear d1 d2 d3 S1 S2 S3 S4 S5 S6 S7 S8 S9 HRP HRL HRA
        subst h1 h2 h3 h4 h5 h6
        go_wp2_with (first
          | (go_at_call 76; refine (HP.out _ (hsW.bel hB14) (hrW.bel hB14)).mono ?_; rintro e w15 ⟨⟨PB, pd, rfl, hPB⟩, hb15⟩; have hB15 := bel_tr hB14 hB14.size hb15; have hX15 := hX14.bel hb15; have hP15 := hP14.bel hb15)
          | (go_at_call 31; refine (ints_same P PA PB pc pd _ hP15.1 hPB.1 hPl).mono ?_; rintro e w16 ⟨rfl, hb16⟩; have hB16 := bel_tr hB15 hB15.size hb16; have hX16 := hX15.bel hb16; have k16 := (kp hB16).1; have xlt2 := hX16.lt; have x0 := hX16.cell 0; have x1 := hX16.cell 1; simp only [List.getElem?_cons_zero, List.getElem?_cons_succ] at x0 x1)
          | (go_at_call 26; refine (HW.out _).mono ?_; rintro e_ w_ ⟨rfl, rfl⟩))
        go_ret
        exact ⟨rfl, bel_tr hwW hwW.size hB16⟩
      · obtain ⟨h6, h7⟩ := S2.out d1 d3
        have q2 : (RE != 0) = true := by simpa using d3
        have q3 : (RE == 0) = false := by simpa using d3
        have HW := hide (fun W' => within_c lag 0 ((vals.length : Int) - 1) W')
        rw [d2] at HW
        clear d1 d2 d3 S1 S2 S3 S4 S5 S6 S7 S8 S9 HRP HRL HRA
        subst h1 h2 h3 h4 h5 h7
        rw [h6]
        clear h6
        go_wp2_with (first
          | (go_at_call 26; refine (HW.out _).mono ?_; rintro e_ w_ ⟨rfl, rfl⟩))
        go_ret
        exact ⟨rfl, bel_tr hwW hwW.size hB14⟩
  · have q1 : (LE != 0) = true := by simpa using d1
    obtain ⟨⟨h1, h2, h3⟩, ⟨h4, h5⟩, h6, h7⟩ := S1.out d1
    clear d1 S1 S2 S3 S4 S5 S6 S7 S8 S9 HRP HRL HRA HRU HBU
    subst h4 h5 h6 h7
    rw [h1, h2, h3]
    clear h1 h2 h3
    go_wp2
    go_ret
    exact ⟨rfl, bel_tr hwW hwW.size hB12⟩
end Go.Proofs.YthkmeaibppkhmaaDoor
