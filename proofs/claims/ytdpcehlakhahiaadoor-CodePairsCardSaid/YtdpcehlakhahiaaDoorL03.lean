/- The law CodePairs: the call returns true, and nothing that was there turns. Condition: the laid table. Written by tools/genl3.py. -/
import Derived.Test.YtdpcehlakhahiaaDoorP7
import Derived.Test.YtdpcehlakhahiaaDoorMG
namespace Go.Proofs.YtdpcehlakhahiaaDoor
open Go.RowKit
set_option maxRecDepth 100000

theorem next1H {P : Program} {ops : Array Oper} {Q : Exit → Act → World → Prop} {md : Region.Mode} {S : World → Prop} {n : Nat} {l : Array Bool} {a : Act} {w : World} {i : Nat} {o : Oper} (hr : Region.ready md ops l = [i]) (ho : ops[i]? = some o)
    (h : ∀ K : Act → World → Prop, (∀ a w, S w → wpAnyH P md ops Q S n (l.setIfInBounds i true) a w → K a w) → if Region.wanted o (yielded ops a.tmps) = true then Oper.wp P o a w K Q else K (a.put o.dst undef) w) :
    wpAnyH P md ops Q S (n + 1) l a w := wpAnyH_all hr (by simp) (fun j hj => by
  rcases List.mem_singleton.1 hj with rfl
  exact wpOp_step ho fun K hK => h K fun a w hS hW => hK a w ⟨hS, hW⟩)


set_option maxHeartbeats 1000000 in
theorem pairs_1 (a b : List Int) (A B : Option Addr) (c d : Nat) (w : World) (hT : Tab w) (hr : Rd w A (ints a)) (hs : Rd w B (ints b)) (h1 : 34 < a.length) :
    Calls Tryd.prog 3 #[.agg #[.slice A a.length c, .slice B b.length d]] w fun r w' => r = .returned (.bool true) ∧ Below w.heap.size w w' := by
  have da : decide ((a.length : Int) ≤ 34) = false := by simp; omega
  have _u := hr
  have _v := hs
  clear h1 hr hs _u _v
  go_enter Tryd.func3, Tryd.ntmps3
  go_wp2_with (first
    | (go_at_call 9; refine (awake_c _ (hT.bel (alloc_bel _ _))).mono ?_; rintro e w1 ⟨rfl, hb1⟩; have hX1 := (Blk.new w 24 [.slice A a.length c, .slice B b.length d]).bel hb1; have hW1 : Below w.heap.size w w1 := tr (alloc_bel _ _) hb1 (by simp); have hxl := hX1.lt; have c0 := hX1.cell 0; have c1 := hX1.cell 1; simp only [List.getElem?_cons_zero, List.getElem?_cons_succ] at c0 c1)
    | (go_at_call 10; refine (few_c _ _ _ _).mono ?_; rintro e_ w_ ⟨rfl, rfl⟩))
  go_ret
  exact ⟨rfl, hW1⟩

set_option maxHeartbeats 1000000 in
theorem pairs_2 (a b : List Int) (A B : Option Addr) (c d : Nat) (w : World) (hT : Tab w) (hr : Rd w A (ints a)) (hs : Rd w B (ints b)) (h1 : a.length ≤ 34) (h2 : 34 < b.length) :
    Calls Tryd.prog 3 #[.agg #[.slice A a.length c, .slice B b.length d]] w fun r w' => r = .returned (.bool true) ∧ Below w.heap.size w w' := by
  have da : decide ((a.length : Int) ≤ 34) = true := by simp; omega
  have db : decide ((b.length : Int) ≤ 34) = false := by simp; omega
  have _u := hr
  have _v := hs
  clear h1 h2 hr hs _u _v
  go_enter Tryd.func3, Tryd.ntmps3
  go_wp2_with (first
    | (go_at_call 9; refine (awake_c _ (hT.bel (alloc_bel _ _))).mono ?_; rintro e w1 ⟨rfl, hb1⟩; have hX1 := (Blk.new w 24 [.slice A a.length c, .slice B b.length d]).bel hb1; have hW1 : Below w.heap.size w w1 := tr (alloc_bel _ _) hb1 (by simp); have hxl := hX1.lt; have c0 := hX1.cell 0; have c1 := hX1.cell 1; simp only [List.getElem?_cons_zero, List.getElem?_cons_succ] at c0 c1)
    | (go_at_call 10; refine (few_c _ _ _ _).mono ?_; rintro e_ w_ ⟨rfl, rfl⟩))
  go_ret
  exact ⟨rfl, hW1⟩

set_option maxHeartbeats 1000000 in
theorem pairs_3 (a b : List Int) (A B : Option Addr) (c d : Nat) (w : World) (hT : Tab w) (hr : Rd w A (ints a)) (hs : Rd w B (ints b)) (h1 : a.length ≤ 34) (h2 : b.length ≤ 34) (h3 : (pairP a b).2 ≠ 0) :
    Calls Tryd.prog 3 #[.agg #[.slice A a.length c, .slice B b.length d]] w fun r w' => r = .returned (.bool true) ∧ Below w.heap.size w w' := by
  have da : decide ((a.length : Int) ≤ 34) = true := by simp; omega
  have db : decide ((b.length : Int) ≤ 34) = true := by simp; omega
  have HCP := hide (fun W (h : Below w.heap.size w W) => copyPair_c a b A B c d a.length b.length W rfl rfl (hr.bel h) (hs.bel h) (by omega) (by omega))
  have HRC := hide (fun W (h : Below w.heap.size w W) => refCheckPair_c a b A B c d W (hr.bel h) (hs.bel h) (by omega) (by omega))
  have HCK := hide (fun (A B : Option Addr) (c d : Nat) W h1 h2 => checkPair_c a b A B c d W h1 h2 (by omega) (by omega))
  have HSN := hide (fun W => samePair_c [] [] none none none none 0 0 0 0 0 0 W rfl rfl (by omega) (by omega) (Rd.nil _ _) (Rd.nil _ _) (Rd.nil _ _) (Rd.nil _ _))
  have hE : longE a b = (pairP a b).2 := by unfold longE firstE; rw [if_neg h3]
  have HD := hide (fun (A B : Option Addr) (c d : Nat) W h1 h2 => doubled_err a b A B c d W h1 h2 (by omega) (by omega) (by rw [hE]; exact h3))
  have HI := hide (fun (A B : Option Addr) (c d : Nat) W h1 h2 => interleaved_err a b A B c d W h1 h2 (by omega) (by omega) (by rw [hE]; exact h3))
  have e1 : ((pairP a b).2 == 0) = false := by simpa using h3
  have e2 : ((pairP a b).2 != 0) = true := by simpa using h3
  rw [hE] at HD HI
  clear hE h3 h1 h2
  generalize (pairP a b).2 = E at HD HI HCK HRC e1 e2
  generalize (pairP a b).1 = L at HCK HRC
  clear hr hs
  go_enter Tryd.func3, Tryd.ntmps3
  go_upto_region 5 with (first
    | (go_at_call 9; refine (awake_c _ (hT.bel (alloc_bel _ _))).mono ?_; rintro e w1 ⟨rfl, hb1⟩; have hX1 := (Blk.new w 24 [.slice A a.length c, .slice B b.length d]).bel hb1; have hW1 : Below w.heap.size w w1 := tr (alloc_bel _ _) hb1 (by simp); have hxl := hX1.lt; have c0 := hX1.cell 0; have c1 := hX1.cell 1; simp only [List.getElem?_cons_zero, List.getElem?_cons_succ] at c0 c1)
    | (go_at_call 10; refine (few_c _ _ _ _).mono ?_; rintro e_ w_ ⟨rfl, rfl⟩))
  replace HCP := hide (fun W (h : Below w1.heap.size w1 W) => HCP.out W (bel_tr hW1 hW1.size h))
  replace HRC := hide (fun W (h : Below w1.heap.size w1 W) => HRC.out W (bel_tr hW1 hW1.size h))
  go_wp2_with (first
    | (go_at_call 16; have _g := hB9; refine (HSN.out _).mono ?_; rintro e w10 ⟨rfl, hb10⟩; have hB10 := bel_tr hB9 hB9.size hb10)
    | (go_at_call 16; refine (HSN.out _).mono ?_; rintro e w9 ⟨rfl, hb9⟩; have hB9 := bel_tr hB8 hB8.size hb9; have hI9 := hI8.bel hb9; have z0 := hI9.cell 0; have z1 := hI9.cell 1; simp only [List.getElem?_cons_zero, List.getElem?_cons_succ] at z0 z1; have n9 := hI9.lt)
    | (go_at_call 15; refine (HRC.out _ (bel_alloc hB7 hB7.size _)).mono ?_; rintro e w8 ⟨rfl, hb8⟩; have hB8 := bel_tr (bel_alloc hB7 hB7.size _) (bel_alloc hB7 hB7.size _).size hb8; have k8 := (kp hB8).1; have s8 := hB8.size; have q8 := Nat.lt_of_lt_of_le hxl s8; have hD8 := (hD7.bel (alloc_bel _ _)).bel hb8; have hI8 := (Blk.new w7 24 _).bel hb8; have x0 := hD8.cell 0; have x1 := hD8.cell 1; simp only [List.getElem?_cons_zero, List.getElem?_cons_succ] at x0 x1; have y0 := hI8.cell 0; have y1 := hI8.cell 1; simp only [List.getElem?_cons_zero, List.getElem?_cons_succ] at y0 y1; have l8 := hD8.lt; have m8 := hI8.lt)
    | (go_at_call 14; refine (HI.out A6 B6 u6 v6 _ hA6.1 hC6.1).mono ?_; rintro e w7 ⟨rfl, hb7⟩; have hB7 := bel_tr hB6 hB6.size hb7; have k7 := (kp hB7).1; have s7 := hB7.size; have q7 := Nat.lt_of_lt_of_le hxl s7; have hD7 := hD6.bel hb7; have l7 := hD7.lt)
    | (go_at_call 12; have _g := hB5; refine (HCP.out _ (bel_alloc hB5 hB5.size _)).mono ?_; rintro e w6 ⟨⟨A6, u6, B6, v6, rfl, hA6, hC6⟩, hb6⟩; have hB6 := bel_tr (bel_alloc hB5 hB5.size _) ((bel_alloc hB5 hB5.size _)).size hb6; have k6 := (kp hB6).1; have s6 := hB6.size; have q6 := Nat.lt_of_lt_of_le hxl s6; have hD6 := (Blk.new w5 24 _).bel hb6; have l6 := hD6.lt)
    | (go_at_call 13; refine (HD.out A4 B4 u4 v4 _ hA4.1 hC4.1).mono ?_; rintro e w5 ⟨rfl, hb5⟩; have hB5 := bel_tr hB4 hB4.size hb5; have k5 := (kp hB5).1; have s5 := hB5.size; have q5 := Nat.lt_of_lt_of_le hxl s5)
    | (go_at_call 12; have _g := hB3; refine (HCP.out _ hB3).mono ?_; rintro e w4 ⟨⟨A4, u4, B4, v4, rfl, hA4, hC4⟩, hb4⟩; have hB4 := bel_tr hB3 (hB3).size hb4; have k4 := (kp hB4).1; have s4 := hB4.size; have q4 := Nat.lt_of_lt_of_le hxl s4)
    | (go_at_call 11; refine (HCK.out A2 B2 u2 v2 _ hA2.1 hC2.1).mono ?_; rintro e w3 ⟨rfl, hb3⟩; have hB3 := bel_tr hB2 hB2.size hb3; have k3 := (kp hB3).1; have s3 := hB3.size)
    | (go_at_call 12; refine (HCP.out _ (Below.refl w1.heap.size w1)).mono ?_; rintro e w2 ⟨⟨A2, u2, B2, v2, rfl, hA2, hC2⟩, hb2⟩; have hB2 := bel_tr (Below.refl w1.heap.size w1) ((Below.refl w1.heap.size w1)).size hb2; have k2 := (kp hB2).1; have s2 := hB2.size; have q2 := Nat.lt_of_lt_of_le hxl s2))
  go_ret
  exact ⟨rfl, bel_tr hW1 hW1.size hB10⟩

set_option maxHeartbeats 1000000 in
theorem pairs_4 (a b : List Int) (A B : Option Addr) (c d : Nat) (w : World) (hT : Tab w) (hr : Rd w A (ints a)) (hs : Rd w B (ints b)) (h1 : a.length ≤ 34) (h2 : b.length ≤ 34) (h3 : (pairP a b).2 = 0) (h4 : 16 < a.length) :
    Calls Tryd.prog 3 #[.agg #[.slice A a.length c, .slice B b.length d]] w fun r w' => r = .returned (.bool true) ∧ Below w.heap.size w w' := by
  have da : decide ((a.length : Int) ≤ 34) = true := by simp; omega
  have db : decide ((b.length : Int) ≤ 34) = true := by simp; omega
  have HCP := hide (fun W (h : Below w.heap.size w W) => copyPair_c a b A B c d a.length b.length W rfl rfl (hr.bel h) (hs.bel h) (by omega) (by omega))
  have HRC := hide (fun W (h : Below w.heap.size w W) => refCheckPair_c a b A B c d W (hr.bel h) (hs.bel h) (by omega) (by omega))
  have HCK := hide (fun (A B : Option Addr) (c d : Nat) W h1 h2 => checkPair_c a b A B c d W h1 h2 (by omega) (by omega))
  have HSN := hide (fun W => samePair_c [] [] none none none none 0 0 0 0 0 0 W rfl rfl (by omega) (by omega) (Rd.nil _ _) (Rd.nil _ _) (Rd.nil _ _) (Rd.nil _ _))
  have hE : longE a b = 8 := by unfold longE firstE; rw [if_pos h3, decide_eq_true (by omega : (32 : Int) < 2 * (a.length : Int))]; rfl
  have HD := hide (fun (A B : Option Addr) (c d : Nat) W h1 h2 => doubled_err a b A B c d W h1 h2 (by omega) (by omega) (by rw [hE]; omega))
  have HI := hide (fun (A B : Option Addr) (c d : Nat) W h1 h2 => interleaved_err a b A B c d W h1 h2 (by omega) (by omega) (by rw [hE]; omega))
  have e1 : decide ((32 : Int) < 2 * (a.length : Int)) = true := by simp; omega
  have wm : IntKind.i64.wrap (2 * (a.length : Int)) = 2 * (a.length : Int) := by simp (disch := omega) only [IntWalk.i64_in]
  rw [hE] at HD HI
  rw [h3] at HCK HRC
  clear hE h3 h1 h2 h4
  generalize (pairP a b).1 = L at HCK HRC
  clear hr hs
  go_enter Tryd.func3, Tryd.ntmps3
  go_upto_region 5 with (first
    | (go_at_call 9; refine (awake_c _ (hT.bel (alloc_bel _ _))).mono ?_; rintro e w1 ⟨rfl, hb1⟩; have hX1 := (Blk.new w 24 [.slice A a.length c, .slice B b.length d]).bel hb1; have hW1 : Below w.heap.size w w1 := tr (alloc_bel _ _) hb1 (by simp); have hxl := hX1.lt; have c0 := hX1.cell 0; have c1 := hX1.cell 1; simp only [List.getElem?_cons_zero, List.getElem?_cons_succ] at c0 c1)
    | (go_at_call 10; refine (few_c _ _ _ _).mono ?_; rintro e_ w_ ⟨rfl, rfl⟩))
  replace HCP := hide (fun W (h : Below w1.heap.size w1 W) => HCP.out W (bel_tr hW1 hW1.size h))
  replace HRC := hide (fun W (h : Below w1.heap.size w1 W) => HRC.out W (bel_tr hW1 hW1.size h))
  go_wp2_with (first
    | (go_at_call 16; have _g := hB9; refine (HSN.out _).mono ?_; rintro e w10 ⟨rfl, hb10⟩; have hB10 := bel_tr hB9 hB9.size hb10)
    | (go_at_call 16; refine (HSN.out _).mono ?_; rintro e w9 ⟨rfl, hb9⟩; have hB9 := bel_tr hB8 hB8.size hb9; have hI9 := hI8.bel hb9; have z0 := hI9.cell 0; have z1 := hI9.cell 1; simp only [List.getElem?_cons_zero, List.getElem?_cons_succ] at z0 z1; have n9 := hI9.lt)
    | (go_at_call 15; refine (HRC.out _ (bel_alloc hB7 hB7.size _)).mono ?_; rintro e w8 ⟨rfl, hb8⟩; have hB8 := bel_tr (bel_alloc hB7 hB7.size _) (bel_alloc hB7 hB7.size _).size hb8; have k8 := (kp hB8).1; have s8 := hB8.size; have q8 := Nat.lt_of_lt_of_le hxl s8; have hD8 := (hD7.bel (alloc_bel _ _)).bel hb8; have hI8 := (Blk.new w7 24 _).bel hb8; have x0 := hD8.cell 0; have x1 := hD8.cell 1; simp only [List.getElem?_cons_zero, List.getElem?_cons_succ] at x0 x1; have y0 := hI8.cell 0; have y1 := hI8.cell 1; simp only [List.getElem?_cons_zero, List.getElem?_cons_succ] at y0 y1; have l8 := hD8.lt; have m8 := hI8.lt)
    | (go_at_call 14; refine (HI.out A6 B6 u6 v6 _ hA6.1 hC6.1).mono ?_; rintro e w7 ⟨rfl, hb7⟩; have hB7 := bel_tr hB6 hB6.size hb7; have k7 := (kp hB7).1; have s7 := hB7.size; have q7 := Nat.lt_of_lt_of_le hxl s7; have hD7 := hD6.bel hb7; have l7 := hD7.lt)
    | (go_at_call 12; have _g := hB5; refine (HCP.out _ (bel_alloc hB5 hB5.size _)).mono ?_; rintro e w6 ⟨⟨A6, u6, B6, v6, rfl, hA6, hC6⟩, hb6⟩; have hB6 := bel_tr (bel_alloc hB5 hB5.size _) ((bel_alloc hB5 hB5.size _)).size hb6; have k6 := (kp hB6).1; have s6 := hB6.size; have q6 := Nat.lt_of_lt_of_le hxl s6; have hD6 := (Blk.new w5 24 _).bel hb6; have l6 := hD6.lt)
    | (go_at_call 13; refine (HD.out A4 B4 u4 v4 _ hA4.1 hC4.1).mono ?_; rintro e w5 ⟨rfl, hb5⟩; have hB5 := bel_tr hB4 hB4.size hb5; have k5 := (kp hB5).1; have s5 := hB5.size; have q5 := Nat.lt_of_lt_of_le hxl s5)
    | (go_at_call 12; have _g := hB3; refine (HCP.out _ hB3).mono ?_; rintro e w4 ⟨⟨A4, u4, B4, v4, rfl, hA4, hC4⟩, hb4⟩; have hB4 := bel_tr hB3 (hB3).size hb4; have k4 := (kp hB4).1; have s4 := hB4.size; have q4 := Nat.lt_of_lt_of_le hxl s4)
    | (go_at_call 11; refine (HCK.out A2 B2 u2 v2 _ hA2.1 hC2.1).mono ?_; rintro e w3 ⟨rfl, hb3⟩; have hB3 := bel_tr hB2 hB2.size hb3; have k3 := (kp hB3).1; have s3 := hB3.size)
    | (go_at_call 12; refine (HCP.out _ (Below.refl w1.heap.size w1)).mono ?_; rintro e w2 ⟨⟨A2, u2, B2, v2, rfl, hA2, hC2⟩, hb2⟩; have hB2 := bel_tr (Below.refl w1.heap.size w1) ((Below.refl w1.heap.size w1)).size hb2; have k2 := (kp hB2).1; have s2 := hB2.size; have q2 := Nat.lt_of_lt_of_le hxl s2))
  go_ret
  exact ⟨rfl, bel_tr hW1 hW1.size hB10⟩

set_option maxHeartbeats 1000000 in
theorem pairs_5 (a b : List Int) (A B : Option Addr) (c d : Nat) (w : World) (hT : Tab w) (hr : Rd w A (ints a)) (hs : Rd w B (ints b)) (h1 : a.length ≤ 34) (h2 : b.length ≤ 34) (h3 : (pairP a b).2 = 0) (h4 : a.length ≤ 16) :
    Calls Tryd.prog 3 #[.agg #[.slice A a.length c, .slice B b.length d]] w fun r w' => r = .returned (.bool true) ∧ Below w.heap.size w w' := by
  have da : decide ((a.length : Int) ≤ 34) = true := by simp; omega
  have db : decide ((b.length : Int) ≤ 34) = true := by simp; omega
  have HCP := hide (fun W (h : Below w.heap.size w W) => copyPair_c a b A B c d a.length b.length W rfl rfl (hr.bel h) (hs.bel h) (by omega) (by omega))
  have HRC := hide (fun W (h : Below w.heap.size w W) => refCheckPair_c a b A B c d W (hr.bel h) (hs.bel h) (by omega) (by omega))
  have HCK := hide (fun (A B : Option Addr) (c d : Nat) W h1 h2 => checkPair_c a b A B c d W h1 h2 (by omega) (by omega))
  have hE : longE a b = 0 := by unfold longE firstE; rw [if_pos h3, decide_eq_false (by omega : ¬ (32 : Int) < 2 * (a.length : Int))]; rfl
  obtain ⟨q1, q2, q3, q4, q5⟩ := longE_zero hE
  have hp1 : 1 ≤ a.length := (codeE_zero q1).1
  have hp2 : 1 ≤ b.length := (codeE_zero q2).1
  have hsm := small_of_code q2
  have HD := hide (fun (A B : Option Addr) (c d : Nat) W h1 h2 => doubled_ok a b A B c d W h1 h2 (by omega) (by omega) hE)
  have HI := hide (fun (A B : Option Addr) (c d : Nat) W h1 h2 => interleaved_ok a b A B c d W h1 h2 (by omega) (by omega) hE)
  have HRD := hide (fun W (h : Below w.heap.size w W) => refDoubled_c a b A B c d W (hr.bel h) (hs.bel h) (by omega) (by omega) hp1 hp2 hsm)
  have HRI := hide (fun W (h : Below w.heap.size w W) => refInterleaved_c a b A B c d W (hr.bel h) (hs.bel h) (by omega) q3 hsm)
  have HS1 := hide (fun (A A' B B' : Option Addr) (q1 q2 q3 q4 : Nat) W => samePair_c (a ++ b) (a ++ negL b) A A' B B' q1 q2 q3 q4 (a.length + b.length) (a.length + b.length) W (by simp) (by simp) (by omega) (by omega))
  have HS2 := hide (fun (A A' B B' : Option Addr) (q1 q2 q3 q4 : Nat) W => samePair_c (turnsTo a b a.length) (turnsTo a (negL b) a.length) A A' B B' q1 q2 q3 q4 (2 * a.length) (2 * a.length) W (by simp) (by simp) (by omega) (by omega))
  have e1 : decide ((32 : Int) < 2 * (a.length : Int)) = false := by simp; omega
  have wm : IntKind.i64.wrap (2 * (a.length : Int)) = 2 * (a.length : Int) := by simp (disch := omega) only [IntWalk.i64_in]
  rw [h3] at HCK HRC
  clear hE h3 h1 h2 h4 q1 q2 q3 q4 q5 hsm
  generalize (pairP a b).1 = L at HCK HRC
  generalize ints (a ++ b) = x1 at HD HRD HS1
  generalize ints (a ++ negL b) = x2 at HD HRD HS1
  generalize ints (turnsTo a b a.length) = x3 at HI HRI HS2
  generalize ints (turnsTo a (negL b) a.length) = x4 at HI HRI HS2
  clear hr hs
  go_enter Tryd.func3, Tryd.ntmps3
  go_upto_region 5 with (first
    | (go_at_call 9; refine (awake_c _ (hT.bel (alloc_bel _ _))).mono ?_; rintro e w1 ⟨rfl, hb1⟩; have hX1 := (Blk.new w 24 [.slice A a.length c, .slice B b.length d]).bel hb1; have hW1 : Below w.heap.size w w1 := tr (alloc_bel _ _) hb1 (by simp); have hxl := hX1.lt; have c0 := hX1.cell 0; have c1 := hX1.cell 1; simp only [List.getElem?_cons_zero, List.getElem?_cons_succ] at c0 c1)
    | (go_at_call 10; refine (few_c _ _ _ _).mono ?_; rintro e_ w_ ⟨rfl, rfl⟩))
  replace HCP := hide (fun W (h : Below w1.heap.size w1 W) => HCP.out W (bel_tr hW1 hW1.size h))
  replace HRC := hide (fun W (h : Below w1.heap.size w1 W) => HRC.out W (bel_tr hW1 hW1.size h))
  replace HRD := hide (fun W (h : Below w1.heap.size w1 W) => HRD.out W (bel_tr hW1 hW1.size h))
  replace HRI := hide (fun W (h : Below w1.heap.size w1 W) => HRI.out W (bel_tr hW1 hW1.size h))
  go_upto_region 15 with (first
    | (go_at_call 15; refine (HRC.out _ (bel_alloc hB7 hB7.size _)).mono ?_; rintro e w8 ⟨rfl, hb8⟩; have hB8 := bel_tr (bel_alloc hB7 hB7.size _) (bel_alloc hB7 hB7.size _).size hb8; have k8 := (kp hB8).1; have s8 := hB8.size; have q8 := Nat.lt_of_lt_of_le hxl s8; have hD8 := (hD7.bel (alloc_bel _ _)).bel hb8; have hI8 := (Blk.new w7 24 _).bel hb8; have x0 := hD8.cell 0; have x1 := hD8.cell 1; simp only [List.getElem?_cons_zero, List.getElem?_cons_succ] at x0 x1; have y0 := hI8.cell 0; have y1 := hI8.cell 1; simp only [List.getElem?_cons_zero, List.getElem?_cons_succ] at y0 y1; have l8 := hD8.lt; have m8 := hI8.lt)
    | (go_at_call 14; refine (HI.out A6 B6 u6 v6 _ hA6.1 hC6.1).mono ?_; rintro e w7 ⟨⟨U7, V7, cu7, cv7, rfl, hU7, hV7⟩, hb7⟩; have hB7 := bel_tr hB6 hB6.size hb7; have k7 := (kp hB7).1; have s7 := hB7.size; have q7 := Nat.lt_of_lt_of_le hxl s7; have hD7 := hD6.bel hb7; have l7 := hD7.lt)
    | (go_at_call 12; have _g := hB5; refine (HCP.out _ (bel_alloc hB5 hB5.size _)).mono ?_; rintro e w6 ⟨⟨A6, u6, B6, v6, rfl, hA6, hC6⟩, hb6⟩; have hB6 := bel_tr (bel_alloc hB5 hB5.size _) ((bel_alloc hB5 hB5.size _)).size hb6; have k6 := (kp hB6).1; have s6 := hB6.size; have q6 := Nat.lt_of_lt_of_le hxl s6; have hD6 := (Blk.new w5 24 _).bel hb6; have l6 := hD6.lt)
    | (go_at_call 13; refine (HD.out A4 B4 u4 v4 _ hA4.1 hC4.1).mono ?_; rintro e w5 ⟨⟨U5, V5, cu5, cv5, rfl, hU5, hV5⟩, hb5⟩; have hB5 := bel_tr hB4 hB4.size hb5; have k5 := (kp hB5).1; have s5 := hB5.size; have q5 := Nat.lt_of_lt_of_le hxl s5)
    | (go_at_call 12; have _g := hB3; refine (HCP.out _ hB3).mono ?_; rintro e w4 ⟨⟨A4, u4, B4, v4, rfl, hA4, hC4⟩, hb4⟩; have hB4 := bel_tr hB3 (hB3).size hb4; have k4 := (kp hB4).1; have s4 := hB4.size; have q4 := Nat.lt_of_lt_of_le hxl s4)
    | (go_at_call 11; refine (HCK.out A2 B2 u2 v2 _ hA2.1 hC2.1).mono ?_; rintro e w3 ⟨rfl, hb3⟩; have hB3 := bel_tr hB2 hB2.size hb3; have k3 := (kp hB3).1; have s3 := hB3.size)
    | (go_at_call 12; refine (HCP.out _ (Below.refl w1.heap.size w1)).mono ?_; rintro e w2 ⟨⟨A2, u2, B2, v2, rfl, hA2, hC2⟩, hb2⟩; have hB2 := bel_tr (Below.refl w1.heap.size w1) ((Below.refl w1.heap.size w1)).size hb2; have k2 := (kp hB2).1; have s2 := hB2.size; have q2 := Nat.lt_of_lt_of_le hxl s2))
  have z0 := (k8 w.heap.size 0 hxl).trans c0
  have z1 := (k8 w.heap.size 1 hxl).trans c1
  have hbI := alloc_bel w7 (.cells #[.slice U7 (2 * a.length) cu7, .slice V7 (2 * a.length) cv7] 24)
  have hbD := alloc_bel w5 (.cells #[.slice U5 (a.length + b.length) cu5, .slice V5 (a.length + b.length) cv5] 24)
  have hU8 := ((((hU5.bel hbD).bel hb6).bel hb7).bel hbI).bel hb8
  have hV8 := ((((hV5.bel hbD).bel hb6).bel hb7).bel hbI).bel hb8
  have hP8 := (hU7.bel hbI).bel hb8
  have hQ8 := (hV7.bel hbI).bel hb8
  clear c0 c1 k2 k3 k4 k5 k6 k7 k8 s2 s3 s4 s5 s6 s7 q4 q5 q6 q7 hbI hbD
  refine wp_region_held (S := fun w' => (∀ b o, b < w8.heap.size → w'.cell? ⟨b, o, none⟩ = w8.cell? ⟨b, o, none⟩) ∧ Below w8.heap.size w8 w') (by kernel_rfl) ?_
  have hSd := kp_refl w8
  change wpAnyH _ _ _ _ _ _ _ _ w8.drew
  refine wpAnyH_take (i := 0) (v := ?_) rfl (by kernel_rfl) (by kernel_rfl) (by kernel_rfl) (fun _ _ _ h => h) (Or.inl ⟨by kernel_rfl, ?_⟩) (by assumption) ?_
  rotate_left 1
  · (intro w hSw; (try dsimp only at hSw); go_simp <;> with_reducible rfl)
  simp only [Act.put, List.getElem_toArray, List.getElem_cons_zero, List.setIfInBounds_toArray, List.set_cons_zero, List.set_cons_succ]
  refine wpAnyH_take (i := 1) (v := ?_) rfl (by kernel_rfl) (by kernel_rfl) (by kernel_rfl) (fun _ _ _ h => h) (Or.inl ⟨by kernel_rfl, ?_⟩) (by assumption) ?_
  rotate_left 1
  · (intro w hSw; (try dsimp only at hSw); go_simp <;> with_reducible rfl)
  simp only [Act.put, List.getElem_toArray, List.getElem_cons_zero, List.getElem_cons_succ, List.setIfInBounds_toArray, List.set_cons_zero, List.set_cons_succ]
  refine wpAnyH_take (i := 2) (v := ?_) rfl (by kernel_rfl) (by kernel_rfl) (by kernel_rfl) (fun _ _ _ h => h) (Or.inl ⟨by kernel_rfl, ?_⟩) (by assumption) ?_
  rotate_left 1
  · (intro w hSw; (try dsimp only at hSw); go_simp <;> with_reducible rfl)
  simp only [Act.put, List.getElem_toArray, List.getElem_cons_zero, List.getElem_cons_succ, List.setIfInBounds_toArray, List.set_cons_zero, List.set_cons_succ]
  refine wpAnyH_take (i := 3) (v := ?_) rfl (by kernel_rfl) (by kernel_rfl) (by kernel_rfl) (fun _ _ _ h => h) (Or.inl ⟨by kernel_rfl, ?_⟩) (by assumption) ?_
  rotate_left 1
  · (intro w hSw; (try dsimp only at hSw); go_simp <;> with_reducible rfl)
  simp only [Act.put, List.getElem_toArray, List.getElem_cons_zero, List.getElem_cons_succ, List.setIfInBounds_toArray, List.set_cons_zero, List.set_cons_succ]
  refine wpAnyH_take (i := 4) (v := ?_) rfl (by kernel_rfl) (by kernel_rfl) (by kernel_rfl) (fun _ _ _ h => h) (Or.inl ⟨by kernel_rfl, ?_⟩) (by assumption) ?_
  rotate_left 1
  · (intro w hSw; (try dsimp only at hSw); go_simp <;> with_reducible rfl)
  simp only [Act.put, List.getElem_toArray, List.getElem_cons_zero, List.getElem_cons_succ, List.setIfInBounds_toArray, List.set_cons_zero, List.set_cons_succ]
  refine next1H (i := 5) (by kernel_rfl) rfl (fun K hK => ?_)
  go_simp
  refine (HRD.out _ (bel_tr hB8 hB8.size hSd.2)).mono ?_
  rintro e w9 ⟨⟨U9, V9, cu9, cv9, rfl, hU9, hV9⟩, hb9⟩
  have hB9 := bel_tr hSd.2 hSd.2.size hb9
  clear hSd
  have hSd := kp hB9
  try dsimp only
  refine hK _ _ hSd ?_
  clear hK K
  refine next1H (i := 6) (by kernel_rfl) rfl (fun K hK => ?_)
  go_simp
  refine (HS1.out U5 U9 V5 V9 cu5 cv5 cu9 cv9 _ (hU8.bel hB9).1 hU9.1 (hV8.bel hB9).1 hV9.1).mono ?_
  rintro e w10 ⟨rfl, hb10⟩
  have hB10 := bel_tr hB9 hB9.size hb10
  clear hSd
  have hSd := kp hB10
  try dsimp only
  refine hK _ _ hSd ?_
  clear hK K
  refine wpAnyH_take (i := 7) (v := ?_) rfl (by kernel_rfl) (by kernel_rfl) (by kernel_rfl) (fun _ _ _ h => h) (Or.inl ⟨by kernel_rfl, ?_⟩) (by assumption) ?_
  rotate_left 1
  · (intro w hSw; (try dsimp only at hSw); go_simp <;> with_reducible rfl)
  simp only [Act.put, List.getElem_toArray, List.getElem_cons_zero, List.getElem_cons_succ, List.setIfInBounds_toArray, List.set_cons_zero, List.set_cons_succ]
  refine wpAnyH_take (i := 8) (v := ?_) rfl (by kernel_rfl) (by kernel_rfl) (by kernel_rfl) (fun _ _ _ h => h) (Or.inl ⟨by kernel_rfl, ?_⟩) (by assumption) ?_
  rotate_left 1
  · (intro w hSw; (try dsimp only at hSw); go_simp <;> with_reducible rfl)
  simp only [Act.put, List.getElem_toArray, List.getElem_cons_zero, List.getElem_cons_succ, List.setIfInBounds_toArray, List.set_cons_zero, List.set_cons_succ]
  refine wpAnyH_take (i := 9) (v := ?_) rfl (by kernel_rfl) (by kernel_rfl) (by kernel_rfl) (fun _ _ _ h => h) (Or.inl ⟨by kernel_rfl, ?_⟩) (by assumption) ?_
  rotate_left 1
  · (intro w hSw; (try dsimp only at hSw); go_simp <;> with_reducible rfl)
  simp only [Act.put, List.getElem_toArray, List.getElem_cons_zero, List.getElem_cons_succ, List.setIfInBounds_toArray, List.set_cons_zero, List.set_cons_succ]
  refine wpAnyH_take (i := 10) (v := ?_) rfl (by kernel_rfl) (by kernel_rfl) (by kernel_rfl) (fun _ _ _ h => h) (Or.inl ⟨by kernel_rfl, ?_⟩) (by assumption) ?_
  rotate_left 1
  · (intro w hSw; (try dsimp only at hSw); go_simp <;> with_reducible rfl)
  simp only [Act.put, List.getElem_toArray, List.getElem_cons_zero, List.getElem_cons_succ, List.setIfInBounds_toArray, List.set_cons_zero, List.set_cons_succ]
  refine wpAnyH_take (i := 11) (v := ?_) rfl (by kernel_rfl) (by kernel_rfl) (by kernel_rfl) (fun _ _ _ h => h) (Or.inl ⟨by kernel_rfl, ?_⟩) (by assumption) ?_
  rotate_left 1
  · (intro w hSw; (try dsimp only at hSw); go_simp <;> with_reducible rfl)
  simp only [Act.put, List.getElem_toArray, List.getElem_cons_zero, List.getElem_cons_succ, List.setIfInBounds_toArray, List.set_cons_zero, List.set_cons_succ]
  refine wpAnyH_take (i := 12) (v := ?_) rfl (by kernel_rfl) (by kernel_rfl) (by kernel_rfl) (fun _ _ _ h => h) (Or.inl ⟨by kernel_rfl, ?_⟩) (by assumption) ?_
  rotate_left 1
  · (intro w hSw; (try dsimp only at hSw); go_simp <;> with_reducible rfl)
  simp only [Act.put, List.getElem_toArray, List.getElem_cons_zero, List.getElem_cons_succ, List.setIfInBounds_toArray, List.set_cons_zero, List.set_cons_succ]
  refine wpAnyH_take (i := 13) (v := ?_) rfl (by kernel_rfl) (by kernel_rfl) (by kernel_rfl) (fun _ _ _ h => h) (Or.inl ⟨by kernel_rfl, ?_⟩) (by assumption) ?_
  rotate_left 1
  · (intro w hSw; (try dsimp only at hSw); go_simp <;> with_reducible rfl)
  simp only [Act.put, List.getElem_toArray, List.getElem_cons_zero, List.getElem_cons_succ, List.setIfInBounds_toArray, List.set_cons_zero, List.set_cons_succ]
  refine wpAnyH_take (i := 14) (v := ?_) rfl (by kernel_rfl) (by kernel_rfl) (by kernel_rfl) (fun _ _ _ h => h) (Or.inl ⟨by kernel_rfl, ?_⟩) (by assumption) ?_
  rotate_left 1
  · (intro w hSw; (try dsimp only at hSw); go_simp <;> with_reducible rfl)
  simp only [Act.put, List.getElem_toArray, List.getElem_cons_zero, List.getElem_cons_succ, List.setIfInBounds_toArray, List.set_cons_zero, List.set_cons_succ]
  refine next1H (i := 15) (by kernel_rfl) rfl (fun K hK => ?_)
  go_simp
  refine (HRI.out _ (bel_tr hB8 hB8.size hB10)).mono ?_
  rintro e w11 ⟨⟨U11, V11, cu11, cv11, rfl, hU11, hV11⟩, hb11⟩
  have hB11 := bel_tr hB10 hB10.size hb11
  clear hSd
  have hSd := kp hB11
  try dsimp only
  refine hK _ _ hSd ?_
  clear hK K
  refine next1H (i := 16) (by kernel_rfl) rfl (fun K hK => ?_)
  go_simp
  refine (HS2.out U7 U11 V7 V11 cu7 cv7 cu11 cv11 _ (hP8.bel hB11).1 hU11.1 (hQ8.bel hB11).1 hV11.1).mono ?_
  rintro e w12 ⟨rfl, hb12⟩
  have hB12 := bel_tr hB11 hB11.size hb12
  clear hSd
  have hSd := kp hB12
  try dsimp only
  refine hK _ _ hSd ?_
  clear hK K
  refine wpAnyH_take (i := 17) (v := ?_) rfl (by kernel_rfl) (by kernel_rfl) (by kernel_rfl) (fun _ _ _ h => h) (Or.inl ⟨by kernel_rfl, ?_⟩) (by assumption) ?_
  rotate_left 1
  · (intro w hSw; (try dsimp only at hSw); go_simp <;> with_reducible rfl)
  simp only [Act.put, List.getElem_toArray, List.getElem_cons_zero, List.getElem_cons_succ, List.setIfInBounds_toArray, List.set_cons_zero, List.set_cons_succ]
  refine wpAnyH_take (i := 18) (v := ?_) rfl (by kernel_rfl) (by kernel_rfl) (by kernel_rfl) (fun _ _ _ h => h) (Or.inl ⟨by kernel_rfl, ?_⟩) (by assumption) ?_
  rotate_left 1
  · (intro w hSw; (try dsimp only at hSw); go_simp <;> with_reducible rfl)
  simp only [Act.put, List.getElem_toArray, List.getElem_cons_zero, List.getElem_cons_succ, List.setIfInBounds_toArray, List.set_cons_zero, List.set_cons_succ]
  refine wpAnyH_done (by kernel_rfl) ?_ _
  go_wp2
  go_ret
  exact ⟨rfl, bel_tr hW1 hW1.size (bel_tr hB8 hB8.size hB12)⟩

theorem pairs_c (a b : List Int) (A B : Option Addr) (c d : Nat) (w : World) (hT : Tab w) (hr : Rd w A (ints a)) (hs : Rd w B (ints b)) :
    Calls Tryd.prog 3 #[.agg #[.slice A a.length c, .slice B b.length d]] w fun r w' => r = .returned (.bool true) ∧ Below w.heap.size w w' := by
  by_cases h1 : a.length ≤ 34
  · by_cases h2 : b.length ≤ 34
    · by_cases h3 : (pairP a b).2 = 0
      · by_cases h4 : a.length ≤ 16
        · exact pairs_5 a b A B c d w hT hr hs h1 h2 h3 h4
        · exact pairs_4 a b A B c d w hT hr hs h1 h2 h3 (by omega)
      · exact pairs_3 a b A B c d w hT hr hs h1 h2 h3
    · exact pairs_2 a b A B c d w hT hr hs h1 (by omega)
  · exact pairs_1 a b A B c d w hT hr hs (by omega)
end Go.Proofs.YtdpcehlakhahiaaDoor
