/- Law: the distance of profiles is a metric. -/
import Derived.Test.YtgnhkjfdicdcmaaH6
import Derived.Test.YtgnhkjfdicdcmaaJ5
namespace Go.Proofs.Ytgnhkjfdicdcmaa
open Go.RowKit
set_option maxRecDepth 100000

theorem dist_at {a b : Int} {l m : List G} (hl : Pro a l) (hm : Pro b m) : dist a l b m = dst (plasma a l) (plasma b m) 6501 := by
  refine dist_more hl.b0 (fun g hg => (hl.all g hg).2.2.1) (fun g hg => (hm.all g hg).2.2.1) ?_
  have q1 := hgt_bd hl.slabs (Nat.le_refl l.length)
  have q2 := hgt_bd hm.slabs (Nat.le_refl m.length)
  have q3 := hl.n1
  have q4 := hm.n1
  have q5 := hl.b1
  have q6 := hm.b1
  unfold distN
  omega
theorem dist_bd {a b : Int} {l m : List G} (hl : Pro a l) (hm : Pro b m) : 0 ≤ dist a l b m ∧ dist a l b m ≤ 1000000000000 := by
  rw [dist_at hl hm]
  have := dst_bd (p := plasma a l) (q := plasma b m) (fun h => plasma_bd fun g hg => ⟨(hl.all g hg).1, (hl.all g hg).2.1⟩) (fun h => plasma_bd fun g hg => ⟨(hm.all g hg).1, (hm.all g hg).2.1⟩) 6501
  omega
theorem dist_symm {a b : Int} {l m : List G} (hl : Pro a l) (hm : Pro b m) : dist a l b m = dist b m a l := by rw [dist_at hl hm, dist_at hm hl, dst_symm]
theorem dist_tri {a b c : Int} {l m n : List G} (hl : Pro a l) (hm : Pro b m) (hn : Pro c n) : dist a l b m ≤ dist a l c n + dist c n b m := by rw [dist_at hl hm, dist_at hl hn, dist_at hn hm]; exact dst_tri _ _ _ _
theorem distanceOf_ok (a b : Int) (l m : List G) (hl : Pro a l) (hm : Pro b m) : ∀ (A : Option Addr) (c : Nat) (B : Option Addr) (d : Nat) (w : World), Rd w A (gs l) → Rd w B (gs m) →
    Calls Try.prog 36 #[.agg #[.int .i64 a, .slice A l.length c], .agg #[.int .i64 b, .slice B m.length d]] w fun r w' => r = .returned (.tuple #[.int .i64 (dist a l b m), .int .i64 0]) ∧ Below w.heap.size w w' := fun A c B d w hr hs => by
  have h := distanceOf_c a b A B c d l m w hr hs (by have := hl.n1; omega) (by have := hm.n1; omega)
  have e : disE a l b m = 0 := by unfold disE; rw [hl.err, hm.err]; rfl
  have e2 : disR a l b m = dist a l b m := by unfold disR; rw [if_pos e]
  rwa [e, e2] at h
theorem contentOf_ok (base : Int) (l : List G) (hl : Pro base l) : ∀ (A : Option Addr) (c : Nat) (w : World), Rd w A (gs l) →
    Calls Try.prog 21 #[.agg #[.int .i64 base, .slice A l.length c]] w fun r w' => r = .returned (.tuple #[.int .i64 (content l l.length), .int .i64 0]) ∧ Below w.heap.size w w' := fun A c w hr => by
  have h := contentOf_c base A c l w hr (by have := hl.n1; omega)
  rw [show contR base l = (content l l.length, 0) by unfold contR; rw [hl.err]; rfl] at h
  exact h
theorem refErr_ok (base : Int) (l : List G) (hl : Pro base l) : ∀ (A : Option Addr) (c : Nat) (w : World), Rd w A (gs l) →
    Calls Try.prog 30 #[.agg #[.int .i64 base, .slice A l.length c]] w fun r w' => r = .returned (.int .i64 0) ∧ Below w.heap.size w w' := fun A c w hr => by
  have h := refErr_c base A c l w hr (by have := hl.n1; omega)
  rw [hl.err] at h
  exact h

set_option maxHeartbeats 4000000 in
theorem metric_c (a b e : Int) (A B E : Option Addr) (c d f : Nat) (l m o : List G) (w : World) (hr : Rd w A (gs l)) (hs : Rd w B (gs m)) (ht : Rd w E (gs o)) (hlx : l.length ≤ maxLen) (hmx : m.length ≤ maxLen) (hox : o.length ≤ maxLen) :
    Calls Try.prog 6 #[.agg #[.int .i64 a, .slice A l.length c], .agg #[.int .i64 b, .slice B m.length d], .agg #[.int .i64 e, .slice E o.length f]] w fun r w' => r = .returned (.bool true) ∧ Below w.heap.size w w' := by
  obtain ⟨W0, hW0⟩ : ∃ W0, ((w.alloc (.cells #[.int .i64 a, .slice A l.length c] 24)).alloc (.cells #[.int .i64 b, .slice B m.length d] 24)).alloc (.cells #[.int .i64 e, .slice E o.length f] 24) = W0 := ⟨_, rfl⟩
  obtain ⟨p, hp⟩ : ∃ p, w.heap.size = p := ⟨_, rfl⟩
  obtain ⟨hsz, hX0, hY0, hZ0, HB0⟩ := new3 w W0 24 24 24 [.int .i64 a, .slice A l.length c] [.int .i64 b, .slice B m.length d] [.int .i64 e, .slice E o.length f] hW0
  rw [hp] at hsz hX0 hY0 hZ0 HB0
  have hr0 := hr.bel (by rw [hp]; exact HB0)
  have hs0 := hs.bel (by rw [hp]; exact HB0)
  have ht0 := ht.bel (by rw [hp]; exact HB0)
  have HW := hide hW0
  clear hW0 hr hs ht
  have k0_0 := hX0.cell 0; have k0_1 := hX0.cell 1; simp only [List.getElem?_cons_zero, List.getElem?_cons_succ] at k0_0 k0_1
  have n0_0 := hY0.cell 0; have n0_1 := hY0.cell 1; simp only [List.getElem?_cons_zero, List.getElem?_cons_succ] at n0_0 n0_1
  have i0_0 := hZ0.cell 0; have i0_1 := hZ0.cell 1; simp only [List.getElem?_cons_zero, List.getElem?_cons_succ] at i0_0 i0_1
  have zk0 := hX0.lt
  have zn0 := hY0.lt
  have zi0 := hZ0.lt
  clear hsz
  have HFX := hide (fun W => few_c a A c l W hlx)
  have HFY := hide (fun W => few_c b B d m W hmx)
  have HFZ := hide (fun W => few_c e E f o W hox)
  by_cases h1 : l.length ≤ 14
  · rw [decide_eq_true h1] at HFX
    by_cases h2 : m.length ≤ 14
    · rw [decide_eq_true h2] at HFY
      by_cases h3 : o.length ≤ 14
      · rw [decide_eq_true h3] at HFZ
        have hl : l.length ≤ 1000 := by omega
        have hm : m.length ≤ 1000 := by omega
        have ho : o.length ≤ 1000 := by omega
        have HEX := hide (fun W h => refErr_c a A c l W h hl)
        have HEY := hide (fun W h => refErr_c b B d m W h hm)
        have HEZ := hide (fun W h => refErr_c e E f o W h ho)
        clear h1 h2 h3 hlx hmx hox
        by_cases g1 : (proE a l).2 = 0
        · have hP := proE_zero g1
          rw [g1] at HEX
          clear g1
          by_cases g2 : (proE b m).2 = 0
          · have hQ := proE_zero g2
            rw [g2] at HEY
            clear g2
            by_cases g3 : (proE e o).2 = 0
            · have hR := proE_zero g3
              rw [g3] at HEZ
              clear g3
              have HJO := hide (fun A c W h => joined_ok a A c l W h hP)
              have hjP := hP.joined
              have HEJ := hide (refErr_ok a (joined l) hjP)
              have HD1 := hide (distanceOf_ok a b l m hP hQ)
              have HD2 := hide (distanceOf_ok b a m l hQ hP)
              have HD3 := hide (distanceOf_ok a e l o hP hR)
              have HD4 := hide (distanceOf_ok e b o m hR hQ)
              have HD5 := hide (distanceOf_ok a a l (joined l) hP hjP)
              have HD6 := hide (distanceOf_ok a a l l hP hP)
              have HCO1 := hide (contentOf_ok a l hP)
              have HCO2 := hide (contentOf_ok a (joined l) hjP)
              have t1 := dist_bd hP hQ
              have t2 := dist_bd hP hR
              have t3 := dist_bd hR hQ
              have t4 := dist_tri hP hQ hR
              have t5 : dist a l a l = 0 := by unfold dist; exact dst_self _ _
              have hjl : (joined l).length ≤ 1000 := by have := hjP.n1; omega
              rw [dist_symm hQ hP] at HD2
              rw [dist_joined hP] at HD5
              rw [t5] at HD6
              rw [content_joined hP] at HCO2
              clear hP hQ hR hjP t5
              generalize dist a l b m = x1 at HD1 HD2 t1 t4
              generalize dist a l e o = x2 at HD3 t2 t4
              generalize dist e o b m = x3 at HD4 t3 t4
              generalize content l l.length = CN at HCO1 HCO2
              generalize joined l = J at HJO HEJ HD5 HCO2 hjl
              have HW1 := hide (fun W => within_c x1 0 1099511627776 W)
              have HW2 := hide (fun W => within_c x2 0 1099511627776 W)
              have HW3 := hide (fun W => within_c x3 0 1099511627776 W)
              rw [outB_false.2 (by omega)] at HW1 HW2 HW3
              have e1 : (x1 == x1) = true := by simp
              have e2 : (CN == CN) = true := by simp
              have e3 : decide (x1 ≤ x2 + x3) = true := decide_eq_true t4
              have e4 : IntKind.i64.wrap (x2 + x3) = x2 + x3 := by simp (disch := omega) only [IntWalk.i64_in]
              go_enter Try.func6, Try.ntmps6
              go_upto_region 1 with fail
              rw [HW.out]
              go_upto_region 5 with (first
                | (go_at_call 15; refine (awake_c _).mono ?_; rintro e_ w1 ⟨rfl, hb1⟩; have hX1 := hX0.bel hb1; have hY1 := hY0.bel hb1; have hZ1 := hZ0.bel hb1; have hr1 := hr0.bel hb1; have hs1 := hs0.bel hb1; have ht1 := ht0.bel hb1; have HB1 := bel_tr HB0 (by have := HB0.size; omega) hb1; have k1_0 := hX1.cell 0; have k1_1 := hX1.cell 1; simp only [List.getElem?_cons_zero, List.getElem?_cons_succ] at k1_0 k1_1; have zk1 := hX1.lt; have n1_0 := hY1.cell 0; have n1_1 := hY1.cell 1; simp only [List.getElem?_cons_zero, List.getElem?_cons_succ] at n1_0 n1_1; have zn1 := hY1.lt; have i1_0 := hZ1.cell 0; have i1_1 := hZ1.cell 1; simp only [List.getElem?_cons_zero, List.getElem?_cons_succ] at i1_0 i1_1; have zi1 := hZ1.lt)
                | (go_at_call 16; with_reducible refine (HFX.out _).mono ?_; rintro e_ w2 ⟨rfl, hb2⟩; have hX2 := hX1.bel hb2; have hY2 := hY1.bel hb2; have hZ2 := hZ1.bel hb2; have hr2 := hr1.bel hb2; have hs2 := hs1.bel hb2; have ht2 := ht1.bel hb2; have HB2 := bel_tr HB1 (by have := HB1.size; omega) hb2; have k2_0 := hX2.cell 0; have k2_1 := hX2.cell 1; simp only [List.getElem?_cons_zero, List.getElem?_cons_succ] at k2_0 k2_1; have zk2 := hX2.lt; have n2_0 := hY2.cell 0; have n2_1 := hY2.cell 1; simp only [List.getElem?_cons_zero, List.getElem?_cons_succ] at n2_0 n2_1; have zn2 := hY2.lt; have i2_0 := hZ2.cell 0; have i2_1 := hZ2.cell 1; simp only [List.getElem?_cons_zero, List.getElem?_cons_succ] at i2_0 i2_1; have zi2 := hZ2.lt)
                | (go_at_call 16; with_reducible refine (HFY.out _).mono ?_; rintro e_ w3 ⟨rfl, hb3⟩; have hX3 := hX2.bel hb3; have hY3 := hY2.bel hb3; have hZ3 := hZ2.bel hb3; have hr3 := hr2.bel hb3; have hs3 := hs2.bel hb3; have ht3 := ht2.bel hb3; have HB3 := bel_tr HB2 (by have := HB2.size; omega) hb3; have k3_0 := hX3.cell 0; have k3_1 := hX3.cell 1; simp only [List.getElem?_cons_zero, List.getElem?_cons_succ] at k3_0 k3_1; have zk3 := hX3.lt; have n3_0 := hY3.cell 0; have n3_1 := hY3.cell 1; simp only [List.getElem?_cons_zero, List.getElem?_cons_succ] at n3_0 n3_1; have zn3 := hY3.lt; have i3_0 := hZ3.cell 0; have i3_1 := hZ3.cell 1; simp only [List.getElem?_cons_zero, List.getElem?_cons_succ] at i3_0 i3_1; have zi3 := hZ3.lt)
                | (go_at_call 16; with_reducible refine (HFZ.out _).mono ?_; rintro e_ w4 ⟨rfl, hb4⟩; have hX4 := hX3.bel hb4; have hY4 := hY3.bel hb4; have hZ4 := hZ3.bel hb4; have hr4 := hr3.bel hb4; have hs4 := hs3.bel hb4; have ht4 := ht3.bel hb4; have HB4 := bel_tr HB3 (by have := HB3.size; omega) hb4; have k4_0 := hX4.cell 0; have k4_1 := hX4.cell 1; simp only [List.getElem?_cons_zero, List.getElem?_cons_succ] at k4_0 k4_1; have zk4 := hX4.lt; have n4_0 := hY4.cell 0; have n4_1 := hY4.cell 1; simp only [List.getElem?_cons_zero, List.getElem?_cons_succ] at n4_0 n4_1; have zn4 := hY4.lt; have i4_0 := hZ4.cell 0; have i4_1 := hZ4.cell 1; simp only [List.getElem?_cons_zero, List.getElem?_cons_succ] at i4_0 i4_1; have zi4 := hZ4.lt)
                | (go_at_call 30; with_reducible refine (HEX.out _ hr4).mono ?_; rintro e_ w5 ⟨rfl, hb5⟩; have hX5 := hX4.bel hb5; have hY5 := hY4.bel hb5; have hZ5 := hZ4.bel hb5; have hr5 := hr4.bel hb5; have hs5 := hs4.bel hb5; have ht5 := ht4.bel hb5; have HB5 := bel_tr HB4 (by have := HB4.size; omega) hb5; have k5_0 := hX5.cell 0; have k5_1 := hX5.cell 1; simp only [List.getElem?_cons_zero, List.getElem?_cons_succ] at k5_0 k5_1; have zk5 := hX5.lt; have n5_0 := hY5.cell 0; have n5_1 := hY5.cell 1; simp only [List.getElem?_cons_zero, List.getElem?_cons_succ] at n5_0 n5_1; have zn5 := hY5.lt; have i5_0 := hZ5.cell 0; have i5_1 := hZ5.cell 1; simp only [List.getElem?_cons_zero, List.getElem?_cons_succ] at i5_0 i5_1; have zi5 := hZ5.lt)
                | (go_at_call 30; with_reducible refine (HEY.out _ hs5).mono ?_; rintro e_ w6 ⟨rfl, hb6⟩; have hX6 := hX5.bel hb6; have hY6 := hY5.bel hb6; have hZ6 := hZ5.bel hb6; have hr6 := hr5.bel hb6; have hs6 := hs5.bel hb6; have ht6 := ht5.bel hb6; have HB6 := bel_tr HB5 (by have := HB5.size; omega) hb6; have k6_0 := hX6.cell 0; have k6_1 := hX6.cell 1; simp only [List.getElem?_cons_zero, List.getElem?_cons_succ] at k6_0 k6_1; have zk6 := hX6.lt; have n6_0 := hY6.cell 0; have n6_1 := hY6.cell 1; simp only [List.getElem?_cons_zero, List.getElem?_cons_succ] at n6_0 n6_1; have zn6 := hY6.lt; have i6_0 := hZ6.cell 0; have i6_1 := hZ6.cell 1; simp only [List.getElem?_cons_zero, List.getElem?_cons_succ] at i6_0 i6_1; have zi6 := hZ6.lt)
                | (go_at_call 30; with_reducible refine (HEZ.out _ ht6).mono ?_; rintro e_ w7 ⟨rfl, hb7⟩; have hX7 := hX6.bel hb7; have hY7 := hY6.bel hb7; have hZ7 := hZ6.bel hb7; have hr7 := hr6.bel hb7; have hs7 := hs6.bel hb7; have ht7 := ht6.bel hb7; have HB7 := bel_tr HB6 (by have := HB6.size; omega) hb7; have k7_0 := hX7.cell 0; have k7_1 := hX7.cell 1; simp only [List.getElem?_cons_zero, List.getElem?_cons_succ] at k7_0 k7_1; have zk7 := hX7.lt; have n7_0 := hY7.cell 0; have n7_1 := hY7.cell 1; simp only [List.getElem?_cons_zero, List.getElem?_cons_succ] at n7_0 n7_1; have zn7 := hY7.lt; have i7_0 := hZ7.cell 0; have i7_1 := hZ7.cell 1; simp only [List.getElem?_cons_zero, List.getElem?_cons_succ] at i7_0 i7_1; have zi7 := hZ7.lt))
              clear k0_0 k0_1 zk0 n0_0 n0_1 zn0 i0_0 i0_1 zi0 k1_0 k1_1 zk1 n1_0 n1_1 zn1 i1_0 i1_1 zi1 k2_0 k2_1 zk2 n2_0 n2_1 zn2 i2_0 i2_1 zi2 k3_0 k3_1 zk3 n3_0 n3_1 zn3 i3_0 i3_1 zi3 k4_0 k4_1 zk4 n4_0 n4_1 zn4 i4_0 i4_1 zi4 k5_0 k5_1 zk5 n5_0 n5_1 zn5 i5_0 i5_1 zi5 k6_0 k6_1 zk6 n6_0 n6_1 zn6 i6_0 i6_1 zi6
              clear hX0 hr0 hY0 hs0 hZ0 ht0 hX1 hr1 hY1 hs1 hZ1 ht1 hX2 hr2 hY2 hs2 hZ2 ht2 hX3 hr3 hY3 hs3 hZ3 ht3 hX4 hr4 hY4 hs4 hZ4 ht4 hX5 hr5 hY5 hs5 hZ5 ht5 hX6 hr6 hY6 hs6 hZ6 ht6
              clear hb1 hb2 hb3 hb4 hb5 hb6 hb7
              go_upto_region 6 with (first
                | (go_at_call 18; refine (copy_c a A c l _ hr7 hl).mono ?_; rintro e_ wa ⟨⟨Aa, qa, rfl, hra⟩, hba⟩)
                | (go_at_call 28; refine (HJO.out Aa qa _ hra).mono ?_; rintro e_ w8 ⟨⟨JA, jq, rfl, hJ8⟩, hb8⟩))
              replace hb8 := tr hba hb8 hba.size
              clear hba hra
              have hX8 := hX7.bel hb8
              have hY8 := hY7.bel hb8
              have hZ8 := hZ7.bel hb8
              have hr8 := hr7.bel hb8
              have hs8 := hs7.bel hb8
              have ht8 := ht7.bel hb8
              have HB8 := bel_tr HB7 (by have := HB7.size; omega) hb8
              clear k7_0 k7_1 zk7 hX7 hr7 n7_0 n7_1 zn7 hY7 hs7 i7_0 i7_1 zi7 hZ7 ht7 HB7 hb8
              have k8_0 := hX8.cell 0; have k8_1 := hX8.cell 1; simp only [List.getElem?_cons_zero, List.getElem?_cons_succ] at k8_0 k8_1
              have zk8 := hX8.lt
              have n8_0 := hY8.cell 0; have n8_1 := hY8.cell 1; simp only [List.getElem?_cons_zero, List.getElem?_cons_succ] at n8_0 n8_1
              have zn8 := hY8.lt
              have i8_0 := hZ8.cell 0; have i8_1 := hZ8.cell 1; simp only [List.getElem?_cons_zero, List.getElem?_cons_succ] at i8_0 i8_1
              have zi8 := hZ8.lt
              obtain ⟨w9, hW9⟩ : ∃ W9, w8.alloc (.cells #[.int .i64 a, .slice JA J.length jq] 24) = W9 := ⟨_, rfl⟩
              have hb9 : Below w8.heap.size w8 w9 := by rw [← hW9]; exact alloc_bel _ _
              have hQ9 : Blk w9 w8.heap.size 24 [.int .i64 a, .slice JA J.length jq] := by rw [← hW9]; exact Blk.new w8 _ [_, _]
              have hJ9 := hJ8.bel hb9
              rw [hW9]
              clear hW9 hJ8
              have hX9 := hX8.bel hb9
              have hY9 := hY8.bel hb9
              have hZ9 := hZ8.bel hb9
              have hr9 := hr8.bel hb9
              have hs9 := hs8.bel hb9
              have ht9 := ht8.bel hb9
              have HB9 := bel_tr HB8 (by have := HB8.size; omega) hb9
              clear k8_0 k8_1 zk8 hX8 hr8 n8_0 n8_1 zn8 hY8 hs8 i8_0 i8_1 zi8 hZ8 ht8 HB8 hb9
              have k9_0 := hX9.cell 0; have k9_1 := hX9.cell 1; simp only [List.getElem?_cons_zero, List.getElem?_cons_succ] at k9_0 k9_1
              have zk9 := hX9.lt
              have n9_0 := hY9.cell 0; have n9_1 := hY9.cell 1; simp only [List.getElem?_cons_zero, List.getElem?_cons_succ] at n9_0 n9_1
              have zn9 := hY9.lt
              have i9_0 := hZ9.cell 0; have i9_1 := hZ9.cell 1; simp only [List.getElem?_cons_zero, List.getElem?_cons_succ] at i9_0 i9_1
              have zi9 := hZ9.lt
              have q9_0 := hQ9.cell 0; have q9_1 := hQ9.cell 1; simp only [List.getElem?_cons_zero, List.getElem?_cons_succ] at q9_0 q9_1
              have zq9 := hQ9.lt
              go_upto_region 8 with (first | (go_at_call 30; refine (HEJ.out JA jq _ hJ9).mono ?_; rintro e_ w10 ⟨rfl, hb10⟩))
              have hX10 := hX9.bel hb10
              have hY10 := hY9.bel hb10
              have hZ10 := hZ9.bel hb10
              have hQ10 := hQ9.bel hb10
              have hr10 := hr9.bel hb10
              have hs10 := hs9.bel hb10
              have ht10 := ht9.bel hb10
              have hJ10 := hJ9.bel hb10
              have HB10 := bel_tr HB9 (by have := HB9.size; omega) hb10
              clear k9_0 k9_1 zk9 hX9 hr9 n9_0 n9_1 zn9 hY9 hs9 i9_0 i9_1 zi9 hZ9 ht9 q9_0 q9_1 zq9 hQ9 hJ9 HB9 hb10
              have k10_0 := hX10.cell 0; have k10_1 := hX10.cell 1; simp only [List.getElem?_cons_zero, List.getElem?_cons_succ] at k10_0 k10_1
              have zk10 := hX10.lt
              have n10_0 := hY10.cell 0; have n10_1 := hY10.cell 1; simp only [List.getElem?_cons_zero, List.getElem?_cons_succ] at n10_0 n10_1
              have zn10 := hY10.lt
              have i10_0 := hZ10.cell 0; have i10_1 := hZ10.cell 1; simp only [List.getElem?_cons_zero, List.getElem?_cons_succ] at i10_0 i10_1
              have zi10 := hZ10.lt
              have q10_0 := hQ10.cell 0; have q10_1 := hQ10.cell 1; simp only [List.getElem?_cons_zero, List.getElem?_cons_succ] at q10_0 q10_1
              have zq10 := hQ10.lt
              go_upto_region 8 with fail
              go_cut [9, 10] from 69 to 76 (fun t u wx => t = .int .i64 x1 ∧ u = .int .i64 0 ∧ Below w10.heap.size w10 wx)
              case first =>
                go_region_held3 (fun w' => (∀ b o, b < w10.heap.size → w'.cell? ⟨b, o, none⟩ = w10.cell? ⟨b, o, none⟩) ∧ Below w10.heap.size w10 w')
                  ((refine kp ?_; (repeat' (first | with_reducible exact Below.refl _ _ | with_reducible exact HC3.out | with_reducible exact HC2.out | with_reducible exact HC1.out | with_reducible refine Below.drew ?_ | with_reducible refine bel_alloc ?_ ?_ _)); all_goals (first | omega | (simp <;> omega))))
                  (first
                    | (go_at_call 18; have _g := HC1; with_reducible refine (copy_c b B d m _ ?_ hm).mono ?_; exact hs10.bel (by (repeat' (first | with_reducible exact Below.refl _ _ | with_reducible exact HC3.out | with_reducible exact HC2.out | with_reducible exact HC1.out | with_reducible refine Below.drew ?_ | with_reducible refine bel_alloc ?_ ?_ _)); all_goals (first | omega | (simp <;> omega))); rintro e_ wB ⟨⟨A5, q5, rfl, hsa⟩, hb5⟩; have HC2 : Hid (Below w10.heap.size w10 wB) := (by refine hide (Below.trans ?_ (hb5.mono ?_)); (repeat' (first | with_reducible exact Below.refl _ _ | with_reducible exact HC3.out | with_reducible exact HC2.out | with_reducible exact HC1.out | with_reducible refine Below.drew ?_ | with_reducible refine bel_alloc ?_ ?_ _)); all_goals (first | omega | (simp <;> omega))); have sC2 := HC2.out.size)
                    | (go_at_call 18; with_reducible refine (copy_c a A c l _ ?_ hl).mono ?_; exact hr10.bel (by (repeat' (first | with_reducible exact Below.refl _ _ | with_reducible exact HC3.out | with_reducible exact HC2.out | with_reducible exact HC1.out | with_reducible refine Below.drew ?_ | with_reducible refine bel_alloc ?_ ?_ _)); all_goals (first | omega | (simp <;> omega))); rintro e_ wA ⟨⟨A4, q4, rfl, hra⟩, hb4⟩; have HC1 : Hid (Below w10.heap.size w10 wA) := (by refine hide (Below.trans ?_ (hb4.mono ?_)); (repeat' (first | with_reducible exact Below.refl _ _ | with_reducible exact HC3.out | with_reducible exact HC2.out | with_reducible exact HC1.out | with_reducible refine Below.drew ?_ | with_reducible refine bel_alloc ?_ ?_ _)); all_goals (first | omega | (simp <;> omega))); have sC1 := HC1.out.size)
                    | (go_at_call 36; refine (HD1.out A4 q4 A5 q5 _ (by first | exact hra.bel hb5 | exact hra) (by first | exact hsa | exact hsa.bel hb4)).mono ?_; rintro e_ wD ⟨rfl, hb6⟩; have HC3 : Hid (Below w10.heap.size w10 wD) := (by refine hide (Below.trans ?_ (hb6.mono ?_)); (repeat' (first | with_reducible exact Below.refl _ _ | with_reducible exact HC3.out | with_reducible exact HC2.out | with_reducible exact HC1.out | with_reducible refine Below.drew ?_ | with_reducible refine bel_alloc ?_ ?_ _)); all_goals (first | omega | (simp <;> omega))); have sC3 := HC3.out.size))
                all_goals (
                  go_wp2
                  go_meet
                  exact ⟨rfl, rfl, HC3.out⟩)
              obtain ⟨rfl, rfl, hb11⟩ := hcut
              obtain ⟨w11, rfl⟩ : ∃ x : World, x = wc := ⟨_, rfl⟩
              have hX11 := hX10.bel hb11
              have hY11 := hY10.bel hb11
              have hZ11 := hZ10.bel hb11
              have hQ11 := hQ10.bel hb11
              have hr11 := hr10.bel hb11
              have hs11 := hs10.bel hb11
              have ht11 := ht10.bel hb11
              have hJ11 := hJ10.bel hb11
              have HB11 := bel_tr HB10 (by have := HB10.size; omega) hb11
              clear k10_0 k10_1 zk10 hX10 hr10 n10_0 n10_1 zn10 hY10 hs10 i10_0 i10_1 zi10 hZ10 ht10 q10_0 q10_1 zq10 hQ10 hJ10 HB10 hb11
              have k11_0 := hX11.cell 0; have k11_1 := hX11.cell 1; simp only [List.getElem?_cons_zero, List.getElem?_cons_succ] at k11_0 k11_1
              have zk11 := hX11.lt
              have n11_0 := hY11.cell 0; have n11_1 := hY11.cell 1; simp only [List.getElem?_cons_zero, List.getElem?_cons_succ] at n11_0 n11_1
              have zn11 := hY11.lt
              have i11_0 := hZ11.cell 0; have i11_1 := hZ11.cell 1; simp only [List.getElem?_cons_zero, List.getElem?_cons_succ] at i11_0 i11_1
              have zi11 := hZ11.lt
              have q11_0 := hQ11.cell 0; have q11_1 := hQ11.cell 1; simp only [List.getElem?_cons_zero, List.getElem?_cons_succ] at q11_0 q11_1
              have zq11 := hQ11.lt
              go_upto_region 9 with fail
              go_cut [11, 12] from 77 to 84 (fun t u wx => t = .int .i64 x1 ∧ u = .int .i64 0 ∧ Below w11.heap.size w11 wx)
              case first =>
                go_region_held3 (fun w' => (∀ b o, b < w11.heap.size → w'.cell? ⟨b, o, none⟩ = w11.cell? ⟨b, o, none⟩) ∧ Below w11.heap.size w11 w')
                  ((refine kp ?_; (repeat' (first | with_reducible exact Below.refl _ _ | with_reducible exact HC3.out | with_reducible exact HC2.out | with_reducible exact HC1.out | with_reducible refine Below.drew ?_ | with_reducible refine bel_alloc ?_ ?_ _)); all_goals (first | omega | (simp <;> omega))))
                  (first
                    | (go_at_call 18; have _g := HC1; with_reducible refine (copy_c a A c l _ ?_ hl).mono ?_; exact hr11.bel (by (repeat' (first | with_reducible exact Below.refl _ _ | with_reducible exact HC3.out | with_reducible exact HC2.out | with_reducible exact HC1.out | with_reducible refine Below.drew ?_ | with_reducible refine bel_alloc ?_ ?_ _)); all_goals (first | omega | (simp <;> omega))); rintro e_ wB ⟨⟨A5, q5, rfl, hsa⟩, hb5⟩; have HC2 : Hid (Below w11.heap.size w11 wB) := (by refine hide (Below.trans ?_ (hb5.mono ?_)); (repeat' (first | with_reducible exact Below.refl _ _ | with_reducible exact HC3.out | with_reducible exact HC2.out | with_reducible exact HC1.out | with_reducible refine Below.drew ?_ | with_reducible refine bel_alloc ?_ ?_ _)); all_goals (first | omega | (simp <;> omega))); have sC2 := HC2.out.size)
                    | (go_at_call 18; with_reducible refine (copy_c b B d m _ ?_ hm).mono ?_; exact hs11.bel (by (repeat' (first | with_reducible exact Below.refl _ _ | with_reducible exact HC3.out | with_reducible exact HC2.out | with_reducible exact HC1.out | with_reducible refine Below.drew ?_ | with_reducible refine bel_alloc ?_ ?_ _)); all_goals (first | omega | (simp <;> omega))); rintro e_ wA ⟨⟨A4, q4, rfl, hra⟩, hb4⟩; have HC1 : Hid (Below w11.heap.size w11 wA) := (by refine hide (Below.trans ?_ (hb4.mono ?_)); (repeat' (first | with_reducible exact Below.refl _ _ | with_reducible exact HC3.out | with_reducible exact HC2.out | with_reducible exact HC1.out | with_reducible refine Below.drew ?_ | with_reducible refine bel_alloc ?_ ?_ _)); all_goals (first | omega | (simp <;> omega))); have sC1 := HC1.out.size)
                    | (go_at_call 36; refine (HD2.out A4 q4 A5 q5 _ (by first | exact hra.bel hb5 | exact hra) (by first | exact hsa | exact hsa.bel hb4)).mono ?_; rintro e_ wD ⟨rfl, hb6⟩; have HC3 : Hid (Below w11.heap.size w11 wD) := (by refine hide (Below.trans ?_ (hb6.mono ?_)); (repeat' (first | with_reducible exact Below.refl _ _ | with_reducible exact HC3.out | with_reducible exact HC2.out | with_reducible exact HC1.out | with_reducible refine Below.drew ?_ | with_reducible refine bel_alloc ?_ ?_ _)); all_goals (first | omega | (simp <;> omega))); have sC3 := HC3.out.size))
                all_goals (
                  go_wp2
                  go_meet
                  exact ⟨rfl, rfl, HC3.out⟩)
              obtain ⟨rfl, rfl, hb12⟩ := hcut
              obtain ⟨w12, rfl⟩ : ∃ x : World, x = wc := ⟨_, rfl⟩
              have hX12 := hX11.bel hb12
              have hY12 := hY11.bel hb12
              have hZ12 := hZ11.bel hb12
              have hQ12 := hQ11.bel hb12
              have hr12 := hr11.bel hb12
              have hs12 := hs11.bel hb12
              have ht12 := ht11.bel hb12
              have hJ12 := hJ11.bel hb12
              have HB12 := bel_tr HB11 (by have := HB11.size; omega) hb12
              clear k11_0 k11_1 zk11 hX11 hr11 n11_0 n11_1 zn11 hY11 hs11 i11_0 i11_1 zi11 hZ11 ht11 q11_0 q11_1 zq11 hQ11 hJ11 HB11 hb12
              have k12_0 := hX12.cell 0; have k12_1 := hX12.cell 1; simp only [List.getElem?_cons_zero, List.getElem?_cons_succ] at k12_0 k12_1
              have zk12 := hX12.lt
              have n12_0 := hY12.cell 0; have n12_1 := hY12.cell 1; simp only [List.getElem?_cons_zero, List.getElem?_cons_succ] at n12_0 n12_1
              have zn12 := hY12.lt
              have i12_0 := hZ12.cell 0; have i12_1 := hZ12.cell 1; simp only [List.getElem?_cons_zero, List.getElem?_cons_succ] at i12_0 i12_1
              have zi12 := hZ12.lt
              have q12_0 := hQ12.cell 0; have q12_1 := hQ12.cell 1; simp only [List.getElem?_cons_zero, List.getElem?_cons_succ] at q12_0 q12_1
              have zq12 := hQ12.lt
              go_upto_region 10 with fail
              go_cut [13, 14] from 85 to 92 (fun t u wx => t = .int .i64 x2 ∧ u = .int .i64 0 ∧ Below w12.heap.size w12 wx)
              case first =>
                go_region_held3 (fun w' => (∀ b o, b < w12.heap.size → w'.cell? ⟨b, o, none⟩ = w12.cell? ⟨b, o, none⟩) ∧ Below w12.heap.size w12 w')
                  ((refine kp ?_; (repeat' (first | with_reducible exact Below.refl _ _ | with_reducible exact HC3.out | with_reducible exact HC2.out | with_reducible exact HC1.out | with_reducible refine Below.drew ?_ | with_reducible refine bel_alloc ?_ ?_ _)); all_goals (first | omega | (simp <;> omega))))
                  (first
                    | (go_at_call 18; have _g := HC1; with_reducible refine (copy_c e E f o _ ?_ ho).mono ?_; exact ht12.bel (by (repeat' (first | with_reducible exact Below.refl _ _ | with_reducible exact HC3.out | with_reducible exact HC2.out | with_reducible exact HC1.out | with_reducible refine Below.drew ?_ | with_reducible refine bel_alloc ?_ ?_ _)); all_goals (first | omega | (simp <;> omega))); rintro e_ wB ⟨⟨A5, q5, rfl, hsa⟩, hb5⟩; have HC2 : Hid (Below w12.heap.size w12 wB) := (by refine hide (Below.trans ?_ (hb5.mono ?_)); (repeat' (first | with_reducible exact Below.refl _ _ | with_reducible exact HC3.out | with_reducible exact HC2.out | with_reducible exact HC1.out | with_reducible refine Below.drew ?_ | with_reducible refine bel_alloc ?_ ?_ _)); all_goals (first | omega | (simp <;> omega))); have sC2 := HC2.out.size)
                    | (go_at_call 18; with_reducible refine (copy_c a A c l _ ?_ hl).mono ?_; exact hr12.bel (by (repeat' (first | with_reducible exact Below.refl _ _ | with_reducible exact HC3.out | with_reducible exact HC2.out | with_reducible exact HC1.out | with_reducible refine Below.drew ?_ | with_reducible refine bel_alloc ?_ ?_ _)); all_goals (first | omega | (simp <;> omega))); rintro e_ wA ⟨⟨A4, q4, rfl, hra⟩, hb4⟩; have HC1 : Hid (Below w12.heap.size w12 wA) := (by refine hide (Below.trans ?_ (hb4.mono ?_)); (repeat' (first | with_reducible exact Below.refl _ _ | with_reducible exact HC3.out | with_reducible exact HC2.out | with_reducible exact HC1.out | with_reducible refine Below.drew ?_ | with_reducible refine bel_alloc ?_ ?_ _)); all_goals (first | omega | (simp <;> omega))); have sC1 := HC1.out.size)
                    | (go_at_call 36; refine (HD3.out A4 q4 A5 q5 _ (by first | exact hra.bel hb5 | exact hra) (by first | exact hsa | exact hsa.bel hb4)).mono ?_; rintro e_ wD ⟨rfl, hb6⟩; have HC3 : Hid (Below w12.heap.size w12 wD) := (by refine hide (Below.trans ?_ (hb6.mono ?_)); (repeat' (first | with_reducible exact Below.refl _ _ | with_reducible exact HC3.out | with_reducible exact HC2.out | with_reducible exact HC1.out | with_reducible refine Below.drew ?_ | with_reducible refine bel_alloc ?_ ?_ _)); all_goals (first | omega | (simp <;> omega))); have sC3 := HC3.out.size))
                all_goals (
                  go_wp2
                  go_meet
                  exact ⟨rfl, rfl, HC3.out⟩)
              obtain ⟨rfl, rfl, hb13⟩ := hcut
              obtain ⟨w13, rfl⟩ : ∃ x : World, x = wc := ⟨_, rfl⟩
              have hX13 := hX12.bel hb13
              have hY13 := hY12.bel hb13
              have hZ13 := hZ12.bel hb13
              have hQ13 := hQ12.bel hb13
              have hr13 := hr12.bel hb13
              have hs13 := hs12.bel hb13
              have ht13 := ht12.bel hb13
              have hJ13 := hJ12.bel hb13
              have HB13 := bel_tr HB12 (by have := HB12.size; omega) hb13
              clear k12_0 k12_1 zk12 hX12 hr12 n12_0 n12_1 zn12 hY12 hs12 i12_0 i12_1 zi12 hZ12 ht12 q12_0 q12_1 zq12 hQ12 hJ12 HB12 hb13
              have k13_0 := hX13.cell 0; have k13_1 := hX13.cell 1; simp only [List.getElem?_cons_zero, List.getElem?_cons_succ] at k13_0 k13_1
              have zk13 := hX13.lt
              have n13_0 := hY13.cell 0; have n13_1 := hY13.cell 1; simp only [List.getElem?_cons_zero, List.getElem?_cons_succ] at n13_0 n13_1
              have zn13 := hY13.lt
              have i13_0 := hZ13.cell 0; have i13_1 := hZ13.cell 1; simp only [List.getElem?_cons_zero, List.getElem?_cons_succ] at i13_0 i13_1
              have zi13 := hZ13.lt
              have q13_0 := hQ13.cell 0; have q13_1 := hQ13.cell 1; simp only [List.getElem?_cons_zero, List.getElem?_cons_succ] at q13_0 q13_1
              have zq13 := hQ13.lt
              go_upto_region 11 with fail
              go_cut [15, 16] from 93 to 100 (fun t u wx => t = .int .i64 x3 ∧ u = .int .i64 0 ∧ Below w13.heap.size w13 wx)
              case first =>
                go_region_held3 (fun w' => (∀ b o, b < w13.heap.size → w'.cell? ⟨b, o, none⟩ = w13.cell? ⟨b, o, none⟩) ∧ Below w13.heap.size w13 w')
                  ((refine kp ?_; (repeat' (first | with_reducible exact Below.refl _ _ | with_reducible exact HC3.out | with_reducible exact HC2.out | with_reducible exact HC1.out | with_reducible refine Below.drew ?_ | with_reducible refine bel_alloc ?_ ?_ _)); all_goals (first | omega | (simp <;> omega))))
                  (first
                    | (go_at_call 18; have _g := HC1; with_reducible refine (copy_c b B d m _ ?_ hm).mono ?_; exact hs13.bel (by (repeat' (first | with_reducible exact Below.refl _ _ | with_reducible exact HC3.out | with_reducible exact HC2.out | with_reducible exact HC1.out | with_reducible refine Below.drew ?_ | with_reducible refine bel_alloc ?_ ?_ _)); all_goals (first | omega | (simp <;> omega))); rintro e_ wB ⟨⟨A5, q5, rfl, hsa⟩, hb5⟩; have HC2 : Hid (Below w13.heap.size w13 wB) := (by refine hide (Below.trans ?_ (hb5.mono ?_)); (repeat' (first | with_reducible exact Below.refl _ _ | with_reducible exact HC3.out | with_reducible exact HC2.out | with_reducible exact HC1.out | with_reducible refine Below.drew ?_ | with_reducible refine bel_alloc ?_ ?_ _)); all_goals (first | omega | (simp <;> omega))); have sC2 := HC2.out.size)
                    | (go_at_call 18; with_reducible refine (copy_c e E f o _ ?_ ho).mono ?_; exact ht13.bel (by (repeat' (first | with_reducible exact Below.refl _ _ | with_reducible exact HC3.out | with_reducible exact HC2.out | with_reducible exact HC1.out | with_reducible refine Below.drew ?_ | with_reducible refine bel_alloc ?_ ?_ _)); all_goals (first | omega | (simp <;> omega))); rintro e_ wA ⟨⟨A4, q4, rfl, hra⟩, hb4⟩; have HC1 : Hid (Below w13.heap.size w13 wA) := (by refine hide (Below.trans ?_ (hb4.mono ?_)); (repeat' (first | with_reducible exact Below.refl _ _ | with_reducible exact HC3.out | with_reducible exact HC2.out | with_reducible exact HC1.out | with_reducible refine Below.drew ?_ | with_reducible refine bel_alloc ?_ ?_ _)); all_goals (first | omega | (simp <;> omega))); have sC1 := HC1.out.size)
                    | (go_at_call 36; refine (HD4.out A4 q4 A5 q5 _ (by first | exact hra.bel hb5 | exact hra) (by first | exact hsa | exact hsa.bel hb4)).mono ?_; rintro e_ wD ⟨rfl, hb6⟩; have HC3 : Hid (Below w13.heap.size w13 wD) := (by refine hide (Below.trans ?_ (hb6.mono ?_)); (repeat' (first | with_reducible exact Below.refl _ _ | with_reducible exact HC3.out | with_reducible exact HC2.out | with_reducible exact HC1.out | with_reducible refine Below.drew ?_ | with_reducible refine bel_alloc ?_ ?_ _)); all_goals (first | omega | (simp <;> omega))); have sC3 := HC3.out.size))
                all_goals (
                  go_wp2
                  go_meet
                  exact ⟨rfl, rfl, HC3.out⟩)
              obtain ⟨rfl, rfl, hb14⟩ := hcut
              obtain ⟨w14, rfl⟩ : ∃ x : World, x = wc := ⟨_, rfl⟩
              have hX14 := hX13.bel hb14
              have hY14 := hY13.bel hb14
              have hZ14 := hZ13.bel hb14
              have hQ14 := hQ13.bel hb14
              have hr14 := hr13.bel hb14
              have hs14 := hs13.bel hb14
              have ht14 := ht13.bel hb14
              have hJ14 := hJ13.bel hb14
              have HB14 := bel_tr HB13 (by have := HB13.size; omega) hb14
              clear k13_0 k13_1 zk13 hX13 hr13 n13_0 n13_1 zn13 hY13 hs13 i13_0 i13_1 zi13 hZ13 ht13 q13_0 q13_1 zq13 hQ13 hJ13 HB13 hb14
              have k14_0 := hX14.cell 0; have k14_1 := hX14.cell 1; simp only [List.getElem?_cons_zero, List.getElem?_cons_succ] at k14_0 k14_1
              have zk14 := hX14.lt
              have n14_0 := hY14.cell 0; have n14_1 := hY14.cell 1; simp only [List.getElem?_cons_zero, List.getElem?_cons_succ] at n14_0 n14_1
              have zn14 := hY14.lt
              have i14_0 := hZ14.cell 0; have i14_1 := hZ14.cell 1; simp only [List.getElem?_cons_zero, List.getElem?_cons_succ] at i14_0 i14_1
              have zi14 := hZ14.lt
              have q14_0 := hQ14.cell 0; have q14_1 := hQ14.cell 1; simp only [List.getElem?_cons_zero, List.getElem?_cons_succ] at q14_0 q14_1
              have zq14 := hQ14.lt
              go_upto_region 12 with fail
              go_cut [17, 18] from 101 to 108 (fun t u wx => t = .int .i64 0 ∧ u = .int .i64 0 ∧ Below w14.heap.size w14 wx)
              case first =>
                go_region_held3 (fun w' => (∀ b o, b < w14.heap.size → w'.cell? ⟨b, o, none⟩ = w14.cell? ⟨b, o, none⟩) ∧ Below w14.heap.size w14 w')
                  ((refine kp ?_; (repeat' (first | with_reducible exact Below.refl _ _ | with_reducible exact HC3.out | with_reducible exact HC2.out | with_reducible exact HC1.out | with_reducible refine Below.drew ?_ | with_reducible refine bel_alloc ?_ ?_ _)); all_goals (first | omega | (simp <;> omega))))
                  (first
                    | (go_at_call 18; have _g := HC1; with_reducible refine (copy_c a JA jq J _ ?_ hjl).mono ?_; exact hJ14.bel (by (repeat' (first | with_reducible exact Below.refl _ _ | with_reducible exact HC3.out | with_reducible exact HC2.out | with_reducible exact HC1.out | with_reducible refine Below.drew ?_ | with_reducible refine bel_alloc ?_ ?_ _)); all_goals (first | omega | (simp <;> omega))); rintro e_ wB ⟨⟨A5, q5, rfl, hsa⟩, hb5⟩; have HC2 : Hid (Below w14.heap.size w14 wB) := (by refine hide (Below.trans ?_ (hb5.mono ?_)); (repeat' (first | with_reducible exact Below.refl _ _ | with_reducible exact HC3.out | with_reducible exact HC2.out | with_reducible exact HC1.out | with_reducible refine Below.drew ?_ | with_reducible refine bel_alloc ?_ ?_ _)); all_goals (first | omega | (simp <;> omega))); have sC2 := HC2.out.size)
                    | (go_at_call 18; with_reducible refine (copy_c a A c l _ ?_ hl).mono ?_; exact hr14.bel (by (repeat' (first | with_reducible exact Below.refl _ _ | with_reducible exact HC3.out | with_reducible exact HC2.out | with_reducible exact HC1.out | with_reducible refine Below.drew ?_ | with_reducible refine bel_alloc ?_ ?_ _)); all_goals (first | omega | (simp <;> omega))); rintro e_ wA ⟨⟨A4, q4, rfl, hra⟩, hb4⟩; have HC1 : Hid (Below w14.heap.size w14 wA) := (by refine hide (Below.trans ?_ (hb4.mono ?_)); (repeat' (first | with_reducible exact Below.refl _ _ | with_reducible exact HC3.out | with_reducible exact HC2.out | with_reducible exact HC1.out | with_reducible refine Below.drew ?_ | with_reducible refine bel_alloc ?_ ?_ _)); all_goals (first | omega | (simp <;> omega))); have sC1 := HC1.out.size)
                    | (go_at_call 36; refine (HD5.out A4 q4 A5 q5 _ (by first | exact hra.bel hb5 | exact hra) (by first | exact hsa | exact hsa.bel hb4)).mono ?_; rintro e_ wD ⟨rfl, hb6⟩; have HC3 : Hid (Below w14.heap.size w14 wD) := (by refine hide (Below.trans ?_ (hb6.mono ?_)); (repeat' (first | with_reducible exact Below.refl _ _ | with_reducible exact HC3.out | with_reducible exact HC2.out | with_reducible exact HC1.out | with_reducible refine Below.drew ?_ | with_reducible refine bel_alloc ?_ ?_ _)); all_goals (first | omega | (simp <;> omega))); have sC3 := HC3.out.size))
                all_goals (
                  go_wp2
                  go_meet
                  exact ⟨rfl, rfl, HC3.out⟩)
              obtain ⟨rfl, rfl, hb15⟩ := hcut
              obtain ⟨w15, rfl⟩ : ∃ x : World, x = wc := ⟨_, rfl⟩
              have hX15 := hX14.bel hb15
              have hY15 := hY14.bel hb15
              have hZ15 := hZ14.bel hb15
              have hQ15 := hQ14.bel hb15
              have hr15 := hr14.bel hb15
              have hs15 := hs14.bel hb15
              have ht15 := ht14.bel hb15
              have hJ15 := hJ14.bel hb15
              have HB15 := bel_tr HB14 (by have := HB14.size; omega) hb15
              clear k14_0 k14_1 zk14 hX14 hr14 n14_0 n14_1 zn14 hY14 hs14 i14_0 i14_1 zi14 hZ14 ht14 q14_0 q14_1 zq14 hQ14 hJ14 HB14 hb15
              have k15_0 := hX15.cell 0; have k15_1 := hX15.cell 1; simp only [List.getElem?_cons_zero, List.getElem?_cons_succ] at k15_0 k15_1
              have zk15 := hX15.lt
              have n15_0 := hY15.cell 0; have n15_1 := hY15.cell 1; simp only [List.getElem?_cons_zero, List.getElem?_cons_succ] at n15_0 n15_1
              have zn15 := hY15.lt
              have i15_0 := hZ15.cell 0; have i15_1 := hZ15.cell 1; simp only [List.getElem?_cons_zero, List.getElem?_cons_succ] at i15_0 i15_1
              have zi15 := hZ15.lt
              have q15_0 := hQ15.cell 0; have q15_1 := hQ15.cell 1; simp only [List.getElem?_cons_zero, List.getElem?_cons_succ] at q15_0 q15_1
              have zq15 := hQ15.lt
              go_upto_region 13 with fail
              go_cut [19, 20] from 109 to 116 (fun t u wx => t = .int .i64 0 ∧ u = .int .i64 0 ∧ Below w15.heap.size w15 wx)
              case first =>
                go_region_held3 (fun w' => (∀ b o, b < w15.heap.size → w'.cell? ⟨b, o, none⟩ = w15.cell? ⟨b, o, none⟩) ∧ Below w15.heap.size w15 w')
                  ((refine kp ?_; (repeat' (first | with_reducible exact Below.refl _ _ | with_reducible exact HC3.out | with_reducible exact HC2.out | with_reducible exact HC1.out | with_reducible refine Below.drew ?_ | with_reducible refine bel_alloc ?_ ?_ _)); all_goals (first | omega | (simp <;> omega))))
                  (first
                    | (go_at_call 18; have _g := HC1; with_reducible refine (copy_c a A c l _ ?_ hl).mono ?_; exact hr15.bel (by (repeat' (first | with_reducible exact Below.refl _ _ | with_reducible exact HC3.out | with_reducible exact HC2.out | with_reducible exact HC1.out | with_reducible refine Below.drew ?_ | with_reducible refine bel_alloc ?_ ?_ _)); all_goals (first | omega | (simp <;> omega))); rintro e_ wB ⟨⟨A5, q5, rfl, hsa⟩, hb5⟩; have HC2 : Hid (Below w15.heap.size w15 wB) := (by refine hide (Below.trans ?_ (hb5.mono ?_)); (repeat' (first | with_reducible exact Below.refl _ _ | with_reducible exact HC3.out | with_reducible exact HC2.out | with_reducible exact HC1.out | with_reducible refine Below.drew ?_ | with_reducible refine bel_alloc ?_ ?_ _)); all_goals (first | omega | (simp <;> omega))); have sC2 := HC2.out.size)
                    | (go_at_call 18; with_reducible refine (copy_c a A c l _ ?_ hl).mono ?_; exact hr15.bel (by (repeat' (first | with_reducible exact Below.refl _ _ | with_reducible exact HC3.out | with_reducible exact HC2.out | with_reducible exact HC1.out | with_reducible refine Below.drew ?_ | with_reducible refine bel_alloc ?_ ?_ _)); all_goals (first | omega | (simp <;> omega))); rintro e_ wA ⟨⟨A4, q4, rfl, hra⟩, hb4⟩; have HC1 : Hid (Below w15.heap.size w15 wA) := (by refine hide (Below.trans ?_ (hb4.mono ?_)); (repeat' (first | with_reducible exact Below.refl _ _ | with_reducible exact HC3.out | with_reducible exact HC2.out | with_reducible exact HC1.out | with_reducible refine Below.drew ?_ | with_reducible refine bel_alloc ?_ ?_ _)); all_goals (first | omega | (simp <;> omega))); have sC1 := HC1.out.size)
                    | (go_at_call 36; refine (HD6.out A4 q4 A5 q5 _ (by first | exact hra.bel hb5 | exact hra) (by first | exact hsa | exact hsa.bel hb4)).mono ?_; rintro e_ wD ⟨rfl, hb6⟩; have HC3 : Hid (Below w15.heap.size w15 wD) := (by refine hide (Below.trans ?_ (hb6.mono ?_)); (repeat' (first | with_reducible exact Below.refl _ _ | with_reducible exact HC3.out | with_reducible exact HC2.out | with_reducible exact HC1.out | with_reducible refine Below.drew ?_ | with_reducible refine bel_alloc ?_ ?_ _)); all_goals (first | omega | (simp <;> omega))); have sC3 := HC3.out.size))
                all_goals (
                  go_wp2
                  go_meet
                  exact ⟨rfl, rfl, HC3.out⟩)
              obtain ⟨rfl, rfl, hb16⟩ := hcut
              obtain ⟨w16, rfl⟩ : ∃ x : World, x = wc := ⟨_, rfl⟩
              have hX16 := hX15.bel hb16
              have hY16 := hY15.bel hb16
              have hZ16 := hZ15.bel hb16
              have hQ16 := hQ15.bel hb16
              have hr16 := hr15.bel hb16
              have hs16 := hs15.bel hb16
              have ht16 := ht15.bel hb16
              have hJ16 := hJ15.bel hb16
              have HB16 := bel_tr HB15 (by have := HB15.size; omega) hb16
              clear k15_0 k15_1 zk15 hX15 hr15 n15_0 n15_1 zn15 hY15 hs15 i15_0 i15_1 zi15 hZ15 ht15 q15_0 q15_1 zq15 hQ15 hJ15 HB15 hb16
              have k16_0 := hX16.cell 0; have k16_1 := hX16.cell 1; simp only [List.getElem?_cons_zero, List.getElem?_cons_succ] at k16_0 k16_1
              have zk16 := hX16.lt
              have n16_0 := hY16.cell 0; have n16_1 := hY16.cell 1; simp only [List.getElem?_cons_zero, List.getElem?_cons_succ] at n16_0 n16_1
              have zn16 := hY16.lt
              have i16_0 := hZ16.cell 0; have i16_1 := hZ16.cell 1; simp only [List.getElem?_cons_zero, List.getElem?_cons_succ] at i16_0 i16_1
              have zi16 := hZ16.lt
              have q16_0 := hQ16.cell 0; have q16_1 := hQ16.cell 1; simp only [List.getElem?_cons_zero, List.getElem?_cons_succ] at q16_0 q16_1
              have zq16 := hQ16.lt
              go_upto_region 15 with (first
                | (go_at_call 18; refine (copy_c a A c l _ hr16 hl).mono ?_; rintro e_ wa ⟨⟨Aa, qa, rfl, hra⟩, hba⟩)
                | (go_at_call 21; refine (HCO1.out Aa qa _ hra).mono ?_; rintro e_ w17 ⟨rfl, hb17⟩))
              replace hb17 := tr hba hb17 hba.size
              clear hba hra
              have hX17 := hX16.bel hb17
              have hY17 := hY16.bel hb17
              have hZ17 := hZ16.bel hb17
              have hQ17 := hQ16.bel hb17
              have hr17 := hr16.bel hb17
              have hs17 := hs16.bel hb17
              have ht17 := ht16.bel hb17
              have hJ17 := hJ16.bel hb17
              have HB17 := bel_tr HB16 (by have := HB16.size; omega) hb17
              clear k16_0 k16_1 zk16 hX16 hr16 n16_0 n16_1 zn16 hY16 hs16 i16_0 i16_1 zi16 hZ16 ht16 q16_0 q16_1 zq16 hQ16 hJ16 HB16 hb17
              have k17_0 := hX17.cell 0; have k17_1 := hX17.cell 1; simp only [List.getElem?_cons_zero, List.getElem?_cons_succ] at k17_0 k17_1
              have zk17 := hX17.lt
              have n17_0 := hY17.cell 0; have n17_1 := hY17.cell 1; simp only [List.getElem?_cons_zero, List.getElem?_cons_succ] at n17_0 n17_1
              have zn17 := hY17.lt
              have i17_0 := hZ17.cell 0; have i17_1 := hZ17.cell 1; simp only [List.getElem?_cons_zero, List.getElem?_cons_succ] at i17_0 i17_1
              have zi17 := hZ17.lt
              have q17_0 := hQ17.cell 0; have q17_1 := hQ17.cell 1; simp only [List.getElem?_cons_zero, List.getElem?_cons_succ] at q17_0 q17_1
              have zq17 := hQ17.lt
              go_upto_region 16 with (first
                | (go_at_call 18; refine (copy_c a JA jq J _ hJ17 hjl).mono ?_; rintro e_ wa ⟨⟨Aa, qa, rfl, hra⟩, hba⟩)
                | (go_at_call 21; refine (HCO2.out Aa qa _ hra).mono ?_; rintro e_ w18 ⟨rfl, hb18⟩))
              replace hb18 := tr hba hb18 hba.size
              clear hba hra
              have HB18 := bel_tr HB17 (by have := HB17.size; omega) hb18
              go_wp2_with (first
                | (go_at_call 23; with_reducible refine (HW1.out _).mono ?_; rintro e_ w_ ⟨rfl, rfl⟩)
                | (go_at_call 23; with_reducible refine (HW2.out _).mono ?_; rintro e_ w_ ⟨rfl, rfl⟩)
                | (go_at_call 23; with_reducible refine (HW3.out _).mono ?_; rintro e_ w_ ⟨rfl, rfl⟩))
              go_ret
              exact ⟨rfl, by rw [hp]; exact HB18⟩
            · have e1 : ((proE e o).2 != 0) = true := by simpa using g3
              generalize (proE e o).2 = EE at HEZ e1
              clear g3
              go_enter Try.func6, Try.ntmps6
              go_upto_region 1 with fail
              rw [HW.out]
              go_wp2_with (first
                | (go_at_call 15; refine (awake_c _).mono ?_; rintro e_ w1 ⟨rfl, hb1⟩; have hX1 := hX0.bel hb1; have hY1 := hY0.bel hb1; have hZ1 := hZ0.bel hb1; have hr1 := hr0.bel hb1; have hs1 := hs0.bel hb1; have ht1 := ht0.bel hb1; have HB1 := bel_tr HB0 (by have := HB0.size; omega) hb1; have k1_0 := hX1.cell 0; have k1_1 := hX1.cell 1; simp only [List.getElem?_cons_zero, List.getElem?_cons_succ] at k1_0 k1_1; have zk1 := hX1.lt; have n1_0 := hY1.cell 0; have n1_1 := hY1.cell 1; simp only [List.getElem?_cons_zero, List.getElem?_cons_succ] at n1_0 n1_1; have zn1 := hY1.lt; have i1_0 := hZ1.cell 0; have i1_1 := hZ1.cell 1; simp only [List.getElem?_cons_zero, List.getElem?_cons_succ] at i1_0 i1_1; have zi1 := hZ1.lt)
                | (go_at_call 16; with_reducible refine (HFX.out _).mono ?_; rintro e_ w2 ⟨rfl, hb2⟩; have hX2 := hX1.bel hb2; have hY2 := hY1.bel hb2; have hZ2 := hZ1.bel hb2; have hr2 := hr1.bel hb2; have hs2 := hs1.bel hb2; have ht2 := ht1.bel hb2; have HB2 := bel_tr HB1 (by have := HB1.size; omega) hb2; have k2_0 := hX2.cell 0; have k2_1 := hX2.cell 1; simp only [List.getElem?_cons_zero, List.getElem?_cons_succ] at k2_0 k2_1; have zk2 := hX2.lt; have n2_0 := hY2.cell 0; have n2_1 := hY2.cell 1; simp only [List.getElem?_cons_zero, List.getElem?_cons_succ] at n2_0 n2_1; have zn2 := hY2.lt; have i2_0 := hZ2.cell 0; have i2_1 := hZ2.cell 1; simp only [List.getElem?_cons_zero, List.getElem?_cons_succ] at i2_0 i2_1; have zi2 := hZ2.lt)
                | (go_at_call 16; with_reducible refine (HFY.out _).mono ?_; rintro e_ w3 ⟨rfl, hb3⟩; have hX3 := hX2.bel hb3; have hY3 := hY2.bel hb3; have hZ3 := hZ2.bel hb3; have hr3 := hr2.bel hb3; have hs3 := hs2.bel hb3; have ht3 := ht2.bel hb3; have HB3 := bel_tr HB2 (by have := HB2.size; omega) hb3; have k3_0 := hX3.cell 0; have k3_1 := hX3.cell 1; simp only [List.getElem?_cons_zero, List.getElem?_cons_succ] at k3_0 k3_1; have zk3 := hX3.lt; have n3_0 := hY3.cell 0; have n3_1 := hY3.cell 1; simp only [List.getElem?_cons_zero, List.getElem?_cons_succ] at n3_0 n3_1; have zn3 := hY3.lt; have i3_0 := hZ3.cell 0; have i3_1 := hZ3.cell 1; simp only [List.getElem?_cons_zero, List.getElem?_cons_succ] at i3_0 i3_1; have zi3 := hZ3.lt)
                | (go_at_call 16; with_reducible refine (HFZ.out _).mono ?_; rintro e_ w4 ⟨rfl, hb4⟩; have hX4 := hX3.bel hb4; have hY4 := hY3.bel hb4; have hZ4 := hZ3.bel hb4; have hr4 := hr3.bel hb4; have hs4 := hs3.bel hb4; have ht4 := ht3.bel hb4; have HB4 := bel_tr HB3 (by have := HB3.size; omega) hb4; have k4_0 := hX4.cell 0; have k4_1 := hX4.cell 1; simp only [List.getElem?_cons_zero, List.getElem?_cons_succ] at k4_0 k4_1; have zk4 := hX4.lt; have n4_0 := hY4.cell 0; have n4_1 := hY4.cell 1; simp only [List.getElem?_cons_zero, List.getElem?_cons_succ] at n4_0 n4_1; have zn4 := hY4.lt; have i4_0 := hZ4.cell 0; have i4_1 := hZ4.cell 1; simp only [List.getElem?_cons_zero, List.getElem?_cons_succ] at i4_0 i4_1; have zi4 := hZ4.lt)
                | (go_at_call 30; with_reducible refine (HEX.out _ hr4).mono ?_; rintro e_ w5 ⟨rfl, hb5⟩; have hX5 := hX4.bel hb5; have hY5 := hY4.bel hb5; have hZ5 := hZ4.bel hb5; have hr5 := hr4.bel hb5; have hs5 := hs4.bel hb5; have ht5 := ht4.bel hb5; have HB5 := bel_tr HB4 (by have := HB4.size; omega) hb5; have k5_0 := hX5.cell 0; have k5_1 := hX5.cell 1; simp only [List.getElem?_cons_zero, List.getElem?_cons_succ] at k5_0 k5_1; have zk5 := hX5.lt; have n5_0 := hY5.cell 0; have n5_1 := hY5.cell 1; simp only [List.getElem?_cons_zero, List.getElem?_cons_succ] at n5_0 n5_1; have zn5 := hY5.lt; have i5_0 := hZ5.cell 0; have i5_1 := hZ5.cell 1; simp only [List.getElem?_cons_zero, List.getElem?_cons_succ] at i5_0 i5_1; have zi5 := hZ5.lt)
                | (go_at_call 30; with_reducible refine (HEY.out _ hs5).mono ?_; rintro e_ w6 ⟨rfl, hb6⟩; have hX6 := hX5.bel hb6; have hY6 := hY5.bel hb6; have hZ6 := hZ5.bel hb6; have hr6 := hr5.bel hb6; have hs6 := hs5.bel hb6; have ht6 := ht5.bel hb6; have HB6 := bel_tr HB5 (by have := HB5.size; omega) hb6; have k6_0 := hX6.cell 0; have k6_1 := hX6.cell 1; simp only [List.getElem?_cons_zero, List.getElem?_cons_succ] at k6_0 k6_1; have zk6 := hX6.lt; have n6_0 := hY6.cell 0; have n6_1 := hY6.cell 1; simp only [List.getElem?_cons_zero, List.getElem?_cons_succ] at n6_0 n6_1; have zn6 := hY6.lt; have i6_0 := hZ6.cell 0; have i6_1 := hZ6.cell 1; simp only [List.getElem?_cons_zero, List.getElem?_cons_succ] at i6_0 i6_1; have zi6 := hZ6.lt)
                | (go_at_call 30; with_reducible refine (HEZ.out _ ht6).mono ?_; rintro e_ w7 ⟨rfl, hb7⟩; have hX7 := hX6.bel hb7; have hY7 := hY6.bel hb7; have hZ7 := hZ6.bel hb7; have hr7 := hr6.bel hb7; have hs7 := hs6.bel hb7; have ht7 := ht6.bel hb7; have HB7 := bel_tr HB6 (by have := HB6.size; omega) hb7; have k7_0 := hX7.cell 0; have k7_1 := hX7.cell 1; simp only [List.getElem?_cons_zero, List.getElem?_cons_succ] at k7_0 k7_1; have zk7 := hX7.lt; have n7_0 := hY7.cell 0; have n7_1 := hY7.cell 1; simp only [List.getElem?_cons_zero, List.getElem?_cons_succ] at n7_0 n7_1; have zn7 := hY7.lt; have i7_0 := hZ7.cell 0; have i7_1 := hZ7.cell 1; simp only [List.getElem?_cons_zero, List.getElem?_cons_succ] at i7_0 i7_1; have zi7 := hZ7.lt))
              go_ret
              exact ⟨rfl, by rw [hp]; first | exact HB7 | exact HB6 | exact HB5⟩
          · have e1 : ((proE b m).2 != 0) = true := by simpa using g2
            generalize (proE b m).2 = EE at HEY e1
            clear g2
            go_enter Try.func6, Try.ntmps6
            go_upto_region 1 with fail
            rw [HW.out]
            go_wp2_with (first
              | (go_at_call 15; refine (awake_c _).mono ?_; rintro e_ w1 ⟨rfl, hb1⟩; have hX1 := hX0.bel hb1; have hY1 := hY0.bel hb1; have hZ1 := hZ0.bel hb1; have hr1 := hr0.bel hb1; have hs1 := hs0.bel hb1; have ht1 := ht0.bel hb1; have HB1 := bel_tr HB0 (by have := HB0.size; omega) hb1; have k1_0 := hX1.cell 0; have k1_1 := hX1.cell 1; simp only [List.getElem?_cons_zero, List.getElem?_cons_succ] at k1_0 k1_1; have zk1 := hX1.lt; have n1_0 := hY1.cell 0; have n1_1 := hY1.cell 1; simp only [List.getElem?_cons_zero, List.getElem?_cons_succ] at n1_0 n1_1; have zn1 := hY1.lt; have i1_0 := hZ1.cell 0; have i1_1 := hZ1.cell 1; simp only [List.getElem?_cons_zero, List.getElem?_cons_succ] at i1_0 i1_1; have zi1 := hZ1.lt)
              | (go_at_call 16; with_reducible refine (HFX.out _).mono ?_; rintro e_ w2 ⟨rfl, hb2⟩; have hX2 := hX1.bel hb2; have hY2 := hY1.bel hb2; have hZ2 := hZ1.bel hb2; have hr2 := hr1.bel hb2; have hs2 := hs1.bel hb2; have ht2 := ht1.bel hb2; have HB2 := bel_tr HB1 (by have := HB1.size; omega) hb2; have k2_0 := hX2.cell 0; have k2_1 := hX2.cell 1; simp only [List.getElem?_cons_zero, List.getElem?_cons_succ] at k2_0 k2_1; have zk2 := hX2.lt; have n2_0 := hY2.cell 0; have n2_1 := hY2.cell 1; simp only [List.getElem?_cons_zero, List.getElem?_cons_succ] at n2_0 n2_1; have zn2 := hY2.lt; have i2_0 := hZ2.cell 0; have i2_1 := hZ2.cell 1; simp only [List.getElem?_cons_zero, List.getElem?_cons_succ] at i2_0 i2_1; have zi2 := hZ2.lt)
              | (go_at_call 16; with_reducible refine (HFY.out _).mono ?_; rintro e_ w3 ⟨rfl, hb3⟩; have hX3 := hX2.bel hb3; have hY3 := hY2.bel hb3; have hZ3 := hZ2.bel hb3; have hr3 := hr2.bel hb3; have hs3 := hs2.bel hb3; have ht3 := ht2.bel hb3; have HB3 := bel_tr HB2 (by have := HB2.size; omega) hb3; have k3_0 := hX3.cell 0; have k3_1 := hX3.cell 1; simp only [List.getElem?_cons_zero, List.getElem?_cons_succ] at k3_0 k3_1; have zk3 := hX3.lt; have n3_0 := hY3.cell 0; have n3_1 := hY3.cell 1; simp only [List.getElem?_cons_zero, List.getElem?_cons_succ] at n3_0 n3_1; have zn3 := hY3.lt; have i3_0 := hZ3.cell 0; have i3_1 := hZ3.cell 1; simp only [List.getElem?_cons_zero, List.getElem?_cons_succ] at i3_0 i3_1; have zi3 := hZ3.lt)
              | (go_at_call 16; with_reducible refine (HFZ.out _).mono ?_; rintro e_ w4 ⟨rfl, hb4⟩; have hX4 := hX3.bel hb4; have hY4 := hY3.bel hb4; have hZ4 := hZ3.bel hb4; have hr4 := hr3.bel hb4; have hs4 := hs3.bel hb4; have ht4 := ht3.bel hb4; have HB4 := bel_tr HB3 (by have := HB3.size; omega) hb4; have k4_0 := hX4.cell 0; have k4_1 := hX4.cell 1; simp only [List.getElem?_cons_zero, List.getElem?_cons_succ] at k4_0 k4_1; have zk4 := hX4.lt; have n4_0 := hY4.cell 0; have n4_1 := hY4.cell 1; simp only [List.getElem?_cons_zero, List.getElem?_cons_succ] at n4_0 n4_1; have zn4 := hY4.lt; have i4_0 := hZ4.cell 0; have i4_1 := hZ4.cell 1; simp only [List.getElem?_cons_zero, List.getElem?_cons_succ] at i4_0 i4_1; have zi4 := hZ4.lt)
              | (go_at_call 30; with_reducible refine (HEX.out _ hr4).mono ?_; rintro e_ w5 ⟨rfl, hb5⟩; have hX5 := hX4.bel hb5; have hY5 := hY4.bel hb5; have hZ5 := hZ4.bel hb5; have hr5 := hr4.bel hb5; have hs5 := hs4.bel hb5; have ht5 := ht4.bel hb5; have HB5 := bel_tr HB4 (by have := HB4.size; omega) hb5; have k5_0 := hX5.cell 0; have k5_1 := hX5.cell 1; simp only [List.getElem?_cons_zero, List.getElem?_cons_succ] at k5_0 k5_1; have zk5 := hX5.lt; have n5_0 := hY5.cell 0; have n5_1 := hY5.cell 1; simp only [List.getElem?_cons_zero, List.getElem?_cons_succ] at n5_0 n5_1; have zn5 := hY5.lt; have i5_0 := hZ5.cell 0; have i5_1 := hZ5.cell 1; simp only [List.getElem?_cons_zero, List.getElem?_cons_succ] at i5_0 i5_1; have zi5 := hZ5.lt)
              | (go_at_call 30; with_reducible refine (HEY.out _ hs5).mono ?_; rintro e_ w6 ⟨rfl, hb6⟩; have hX6 := hX5.bel hb6; have hY6 := hY5.bel hb6; have hZ6 := hZ5.bel hb6; have hr6 := hr5.bel hb6; have hs6 := hs5.bel hb6; have ht6 := ht5.bel hb6; have HB6 := bel_tr HB5 (by have := HB5.size; omega) hb6; have k6_0 := hX6.cell 0; have k6_1 := hX6.cell 1; simp only [List.getElem?_cons_zero, List.getElem?_cons_succ] at k6_0 k6_1; have zk6 := hX6.lt; have n6_0 := hY6.cell 0; have n6_1 := hY6.cell 1; simp only [List.getElem?_cons_zero, List.getElem?_cons_succ] at n6_0 n6_1; have zn6 := hY6.lt; have i6_0 := hZ6.cell 0; have i6_1 := hZ6.cell 1; simp only [List.getElem?_cons_zero, List.getElem?_cons_succ] at i6_0 i6_1; have zi6 := hZ6.lt)
              | (go_at_call 30; with_reducible refine (HEZ.out _ ht6).mono ?_; rintro e_ w7 ⟨rfl, hb7⟩; have hX7 := hX6.bel hb7; have hY7 := hY6.bel hb7; have hZ7 := hZ6.bel hb7; have hr7 := hr6.bel hb7; have hs7 := hs6.bel hb7; have ht7 := ht6.bel hb7; have HB7 := bel_tr HB6 (by have := HB6.size; omega) hb7; have k7_0 := hX7.cell 0; have k7_1 := hX7.cell 1; simp only [List.getElem?_cons_zero, List.getElem?_cons_succ] at k7_0 k7_1; have zk7 := hX7.lt; have n7_0 := hY7.cell 0; have n7_1 := hY7.cell 1; simp only [List.getElem?_cons_zero, List.getElem?_cons_succ] at n7_0 n7_1; have zn7 := hY7.lt; have i7_0 := hZ7.cell 0; have i7_1 := hZ7.cell 1; simp only [List.getElem?_cons_zero, List.getElem?_cons_succ] at i7_0 i7_1; have zi7 := hZ7.lt))
            go_ret
            exact ⟨rfl, by rw [hp]; first | exact HB7 | exact HB6 | exact HB5⟩
        · have e1 : ((proE a l).2 != 0) = true := by simpa using g1
          generalize (proE a l).2 = EE at HEX e1
          clear g1
          go_enter Try.func6, Try.ntmps6
          go_upto_region 1 with fail
          rw [HW.out]
          go_wp2_with (first
            | (go_at_call 15; refine (awake_c _).mono ?_; rintro e_ w1 ⟨rfl, hb1⟩; have hX1 := hX0.bel hb1; have hY1 := hY0.bel hb1; have hZ1 := hZ0.bel hb1; have hr1 := hr0.bel hb1; have hs1 := hs0.bel hb1; have ht1 := ht0.bel hb1; have HB1 := bel_tr HB0 (by have := HB0.size; omega) hb1; have k1_0 := hX1.cell 0; have k1_1 := hX1.cell 1; simp only [List.getElem?_cons_zero, List.getElem?_cons_succ] at k1_0 k1_1; have zk1 := hX1.lt; have n1_0 := hY1.cell 0; have n1_1 := hY1.cell 1; simp only [List.getElem?_cons_zero, List.getElem?_cons_succ] at n1_0 n1_1; have zn1 := hY1.lt; have i1_0 := hZ1.cell 0; have i1_1 := hZ1.cell 1; simp only [List.getElem?_cons_zero, List.getElem?_cons_succ] at i1_0 i1_1; have zi1 := hZ1.lt)
            | (go_at_call 16; with_reducible refine (HFX.out _).mono ?_; rintro e_ w2 ⟨rfl, hb2⟩; have hX2 := hX1.bel hb2; have hY2 := hY1.bel hb2; have hZ2 := hZ1.bel hb2; have hr2 := hr1.bel hb2; have hs2 := hs1.bel hb2; have ht2 := ht1.bel hb2; have HB2 := bel_tr HB1 (by have := HB1.size; omega) hb2; have k2_0 := hX2.cell 0; have k2_1 := hX2.cell 1; simp only [List.getElem?_cons_zero, List.getElem?_cons_succ] at k2_0 k2_1; have zk2 := hX2.lt; have n2_0 := hY2.cell 0; have n2_1 := hY2.cell 1; simp only [List.getElem?_cons_zero, List.getElem?_cons_succ] at n2_0 n2_1; have zn2 := hY2.lt; have i2_0 := hZ2.cell 0; have i2_1 := hZ2.cell 1; simp only [List.getElem?_cons_zero, List.getElem?_cons_succ] at i2_0 i2_1; have zi2 := hZ2.lt)
            | (go_at_call 16; with_reducible refine (HFY.out _).mono ?_; rintro e_ w3 ⟨rfl, hb3⟩; have hX3 := hX2.bel hb3; have hY3 := hY2.bel hb3; have hZ3 := hZ2.bel hb3; have hr3 := hr2.bel hb3; have hs3 := hs2.bel hb3; have ht3 := ht2.bel hb3; have HB3 := bel_tr HB2 (by have := HB2.size; omega) hb3; have k3_0 := hX3.cell 0; have k3_1 := hX3.cell 1; simp only [List.getElem?_cons_zero, List.getElem?_cons_succ] at k3_0 k3_1; have zk3 := hX3.lt; have n3_0 := hY3.cell 0; have n3_1 := hY3.cell 1; simp only [List.getElem?_cons_zero, List.getElem?_cons_succ] at n3_0 n3_1; have zn3 := hY3.lt; have i3_0 := hZ3.cell 0; have i3_1 := hZ3.cell 1; simp only [List.getElem?_cons_zero, List.getElem?_cons_succ] at i3_0 i3_1; have zi3 := hZ3.lt)
            | (go_at_call 16; with_reducible refine (HFZ.out _).mono ?_; rintro e_ w4 ⟨rfl, hb4⟩; have hX4 := hX3.bel hb4; have hY4 := hY3.bel hb4; have hZ4 := hZ3.bel hb4; have hr4 := hr3.bel hb4; have hs4 := hs3.bel hb4; have ht4 := ht3.bel hb4; have HB4 := bel_tr HB3 (by have := HB3.size; omega) hb4; have k4_0 := hX4.cell 0; have k4_1 := hX4.cell 1; simp only [List.getElem?_cons_zero, List.getElem?_cons_succ] at k4_0 k4_1; have zk4 := hX4.lt; have n4_0 := hY4.cell 0; have n4_1 := hY4.cell 1; simp only [List.getElem?_cons_zero, List.getElem?_cons_succ] at n4_0 n4_1; have zn4 := hY4.lt; have i4_0 := hZ4.cell 0; have i4_1 := hZ4.cell 1; simp only [List.getElem?_cons_zero, List.getElem?_cons_succ] at i4_0 i4_1; have zi4 := hZ4.lt)
            | (go_at_call 30; with_reducible refine (HEX.out _ hr4).mono ?_; rintro e_ w5 ⟨rfl, hb5⟩; have hX5 := hX4.bel hb5; have hY5 := hY4.bel hb5; have hZ5 := hZ4.bel hb5; have hr5 := hr4.bel hb5; have hs5 := hs4.bel hb5; have ht5 := ht4.bel hb5; have HB5 := bel_tr HB4 (by have := HB4.size; omega) hb5; have k5_0 := hX5.cell 0; have k5_1 := hX5.cell 1; simp only [List.getElem?_cons_zero, List.getElem?_cons_succ] at k5_0 k5_1; have zk5 := hX5.lt; have n5_0 := hY5.cell 0; have n5_1 := hY5.cell 1; simp only [List.getElem?_cons_zero, List.getElem?_cons_succ] at n5_0 n5_1; have zn5 := hY5.lt; have i5_0 := hZ5.cell 0; have i5_1 := hZ5.cell 1; simp only [List.getElem?_cons_zero, List.getElem?_cons_succ] at i5_0 i5_1; have zi5 := hZ5.lt)
            | (go_at_call 30; with_reducible refine (HEY.out _ hs5).mono ?_; rintro e_ w6 ⟨rfl, hb6⟩; have hX6 := hX5.bel hb6; have hY6 := hY5.bel hb6; have hZ6 := hZ5.bel hb6; have hr6 := hr5.bel hb6; have hs6 := hs5.bel hb6; have ht6 := ht5.bel hb6; have HB6 := bel_tr HB5 (by have := HB5.size; omega) hb6; have k6_0 := hX6.cell 0; have k6_1 := hX6.cell 1; simp only [List.getElem?_cons_zero, List.getElem?_cons_succ] at k6_0 k6_1; have zk6 := hX6.lt; have n6_0 := hY6.cell 0; have n6_1 := hY6.cell 1; simp only [List.getElem?_cons_zero, List.getElem?_cons_succ] at n6_0 n6_1; have zn6 := hY6.lt; have i6_0 := hZ6.cell 0; have i6_1 := hZ6.cell 1; simp only [List.getElem?_cons_zero, List.getElem?_cons_succ] at i6_0 i6_1; have zi6 := hZ6.lt)
            | (go_at_call 30; with_reducible refine (HEZ.out _ ht6).mono ?_; rintro e_ w7 ⟨rfl, hb7⟩; have hX7 := hX6.bel hb7; have hY7 := hY6.bel hb7; have hZ7 := hZ6.bel hb7; have hr7 := hr6.bel hb7; have hs7 := hs6.bel hb7; have ht7 := ht6.bel hb7; have HB7 := bel_tr HB6 (by have := HB6.size; omega) hb7; have k7_0 := hX7.cell 0; have k7_1 := hX7.cell 1; simp only [List.getElem?_cons_zero, List.getElem?_cons_succ] at k7_0 k7_1; have zk7 := hX7.lt; have n7_0 := hY7.cell 0; have n7_1 := hY7.cell 1; simp only [List.getElem?_cons_zero, List.getElem?_cons_succ] at n7_0 n7_1; have zn7 := hY7.lt; have i7_0 := hZ7.cell 0; have i7_1 := hZ7.cell 1; simp only [List.getElem?_cons_zero, List.getElem?_cons_succ] at i7_0 i7_1; have zi7 := hZ7.lt))
          go_ret
          exact ⟨rfl, by rw [hp]; first | exact HB7 | exact HB6 | exact HB5⟩
      · rw [decide_eq_false h3] at HFZ
        clear h3
        go_enter Try.func6, Try.ntmps6
        go_upto_region 1 with fail
        rw [HW.out]
        go_wp2_with (first
          | (go_at_call 15; refine (awake_c _).mono ?_; rintro e_ w1 ⟨rfl, hb1⟩; have hX1 := hX0.bel hb1; have hY1 := hY0.bel hb1; have hZ1 := hZ0.bel hb1; have hr1 := hr0.bel hb1; have hs1 := hs0.bel hb1; have ht1 := ht0.bel hb1; have HB1 := bel_tr HB0 (by have := HB0.size; omega) hb1; have k1_0 := hX1.cell 0; have k1_1 := hX1.cell 1; simp only [List.getElem?_cons_zero, List.getElem?_cons_succ] at k1_0 k1_1; have zk1 := hX1.lt; have n1_0 := hY1.cell 0; have n1_1 := hY1.cell 1; simp only [List.getElem?_cons_zero, List.getElem?_cons_succ] at n1_0 n1_1; have zn1 := hY1.lt; have i1_0 := hZ1.cell 0; have i1_1 := hZ1.cell 1; simp only [List.getElem?_cons_zero, List.getElem?_cons_succ] at i1_0 i1_1; have zi1 := hZ1.lt)
          | (go_at_call 16; with_reducible refine (HFX.out _).mono ?_; rintro e_ w2 ⟨rfl, hb2⟩; have hX2 := hX1.bel hb2; have hY2 := hY1.bel hb2; have hZ2 := hZ1.bel hb2; have hr2 := hr1.bel hb2; have hs2 := hs1.bel hb2; have ht2 := ht1.bel hb2; have HB2 := bel_tr HB1 (by have := HB1.size; omega) hb2; have k2_0 := hX2.cell 0; have k2_1 := hX2.cell 1; simp only [List.getElem?_cons_zero, List.getElem?_cons_succ] at k2_0 k2_1; have zk2 := hX2.lt; have n2_0 := hY2.cell 0; have n2_1 := hY2.cell 1; simp only [List.getElem?_cons_zero, List.getElem?_cons_succ] at n2_0 n2_1; have zn2 := hY2.lt; have i2_0 := hZ2.cell 0; have i2_1 := hZ2.cell 1; simp only [List.getElem?_cons_zero, List.getElem?_cons_succ] at i2_0 i2_1; have zi2 := hZ2.lt)
          | (go_at_call 16; with_reducible refine (HFY.out _).mono ?_; rintro e_ w3 ⟨rfl, hb3⟩; have hX3 := hX2.bel hb3; have hY3 := hY2.bel hb3; have hZ3 := hZ2.bel hb3; have hr3 := hr2.bel hb3; have hs3 := hs2.bel hb3; have ht3 := ht2.bel hb3; have HB3 := bel_tr HB2 (by have := HB2.size; omega) hb3; have k3_0 := hX3.cell 0; have k3_1 := hX3.cell 1; simp only [List.getElem?_cons_zero, List.getElem?_cons_succ] at k3_0 k3_1; have zk3 := hX3.lt; have n3_0 := hY3.cell 0; have n3_1 := hY3.cell 1; simp only [List.getElem?_cons_zero, List.getElem?_cons_succ] at n3_0 n3_1; have zn3 := hY3.lt; have i3_0 := hZ3.cell 0; have i3_1 := hZ3.cell 1; simp only [List.getElem?_cons_zero, List.getElem?_cons_succ] at i3_0 i3_1; have zi3 := hZ3.lt)
          | (go_at_call 16; with_reducible refine (HFZ.out _).mono ?_; rintro e_ w4 ⟨rfl, hb4⟩; have hX4 := hX3.bel hb4; have hY4 := hY3.bel hb4; have hZ4 := hZ3.bel hb4; have hr4 := hr3.bel hb4; have hs4 := hs3.bel hb4; have ht4 := ht3.bel hb4; have HB4 := bel_tr HB3 (by have := HB3.size; omega) hb4; have k4_0 := hX4.cell 0; have k4_1 := hX4.cell 1; simp only [List.getElem?_cons_zero, List.getElem?_cons_succ] at k4_0 k4_1; have zk4 := hX4.lt; have n4_0 := hY4.cell 0; have n4_1 := hY4.cell 1; simp only [List.getElem?_cons_zero, List.getElem?_cons_succ] at n4_0 n4_1; have zn4 := hY4.lt; have i4_0 := hZ4.cell 0; have i4_1 := hZ4.cell 1; simp only [List.getElem?_cons_zero, List.getElem?_cons_succ] at i4_0 i4_1; have zi4 := hZ4.lt))
        go_ret
        exact ⟨rfl, by rw [hp]; first | exact HB4 | exact HB3 | exact HB2⟩
    · rw [decide_eq_false h2] at HFY
      clear h2
      go_enter Try.func6, Try.ntmps6
      go_upto_region 1 with fail
      rw [HW.out]
      go_wp2_with (first
        | (go_at_call 15; refine (awake_c _).mono ?_; rintro e_ w1 ⟨rfl, hb1⟩; have hX1 := hX0.bel hb1; have hY1 := hY0.bel hb1; have hZ1 := hZ0.bel hb1; have hr1 := hr0.bel hb1; have hs1 := hs0.bel hb1; have ht1 := ht0.bel hb1; have HB1 := bel_tr HB0 (by have := HB0.size; omega) hb1; have k1_0 := hX1.cell 0; have k1_1 := hX1.cell 1; simp only [List.getElem?_cons_zero, List.getElem?_cons_succ] at k1_0 k1_1; have zk1 := hX1.lt; have n1_0 := hY1.cell 0; have n1_1 := hY1.cell 1; simp only [List.getElem?_cons_zero, List.getElem?_cons_succ] at n1_0 n1_1; have zn1 := hY1.lt; have i1_0 := hZ1.cell 0; have i1_1 := hZ1.cell 1; simp only [List.getElem?_cons_zero, List.getElem?_cons_succ] at i1_0 i1_1; have zi1 := hZ1.lt)
        | (go_at_call 16; with_reducible refine (HFX.out _).mono ?_; rintro e_ w2 ⟨rfl, hb2⟩; have hX2 := hX1.bel hb2; have hY2 := hY1.bel hb2; have hZ2 := hZ1.bel hb2; have hr2 := hr1.bel hb2; have hs2 := hs1.bel hb2; have ht2 := ht1.bel hb2; have HB2 := bel_tr HB1 (by have := HB1.size; omega) hb2; have k2_0 := hX2.cell 0; have k2_1 := hX2.cell 1; simp only [List.getElem?_cons_zero, List.getElem?_cons_succ] at k2_0 k2_1; have zk2 := hX2.lt; have n2_0 := hY2.cell 0; have n2_1 := hY2.cell 1; simp only [List.getElem?_cons_zero, List.getElem?_cons_succ] at n2_0 n2_1; have zn2 := hY2.lt; have i2_0 := hZ2.cell 0; have i2_1 := hZ2.cell 1; simp only [List.getElem?_cons_zero, List.getElem?_cons_succ] at i2_0 i2_1; have zi2 := hZ2.lt)
        | (go_at_call 16; with_reducible refine (HFY.out _).mono ?_; rintro e_ w3 ⟨rfl, hb3⟩; have hX3 := hX2.bel hb3; have hY3 := hY2.bel hb3; have hZ3 := hZ2.bel hb3; have hr3 := hr2.bel hb3; have hs3 := hs2.bel hb3; have ht3 := ht2.bel hb3; have HB3 := bel_tr HB2 (by have := HB2.size; omega) hb3; have k3_0 := hX3.cell 0; have k3_1 := hX3.cell 1; simp only [List.getElem?_cons_zero, List.getElem?_cons_succ] at k3_0 k3_1; have zk3 := hX3.lt; have n3_0 := hY3.cell 0; have n3_1 := hY3.cell 1; simp only [List.getElem?_cons_zero, List.getElem?_cons_succ] at n3_0 n3_1; have zn3 := hY3.lt; have i3_0 := hZ3.cell 0; have i3_1 := hZ3.cell 1; simp only [List.getElem?_cons_zero, List.getElem?_cons_succ] at i3_0 i3_1; have zi3 := hZ3.lt)
        | (go_at_call 16; with_reducible refine (HFZ.out _).mono ?_; rintro e_ w4 ⟨rfl, hb4⟩; have hX4 := hX3.bel hb4; have hY4 := hY3.bel hb4; have hZ4 := hZ3.bel hb4; have hr4 := hr3.bel hb4; have hs4 := hs3.bel hb4; have ht4 := ht3.bel hb4; have HB4 := bel_tr HB3 (by have := HB3.size; omega) hb4; have k4_0 := hX4.cell 0; have k4_1 := hX4.cell 1; simp only [List.getElem?_cons_zero, List.getElem?_cons_succ] at k4_0 k4_1; have zk4 := hX4.lt; have n4_0 := hY4.cell 0; have n4_1 := hY4.cell 1; simp only [List.getElem?_cons_zero, List.getElem?_cons_succ] at n4_0 n4_1; have zn4 := hY4.lt; have i4_0 := hZ4.cell 0; have i4_1 := hZ4.cell 1; simp only [List.getElem?_cons_zero, List.getElem?_cons_succ] at i4_0 i4_1; have zi4 := hZ4.lt))
      go_ret
      exact ⟨rfl, by rw [hp]; first | exact HB4 | exact HB3 | exact HB2⟩
  · rw [decide_eq_false h1] at HFX
    clear h1
    go_enter Try.func6, Try.ntmps6
    go_upto_region 1 with fail
    rw [HW.out]
    go_wp2_with (first
      | (go_at_call 15; refine (awake_c _).mono ?_; rintro e_ w1 ⟨rfl, hb1⟩; have hX1 := hX0.bel hb1; have hY1 := hY0.bel hb1; have hZ1 := hZ0.bel hb1; have hr1 := hr0.bel hb1; have hs1 := hs0.bel hb1; have ht1 := ht0.bel hb1; have HB1 := bel_tr HB0 (by have := HB0.size; omega) hb1; have k1_0 := hX1.cell 0; have k1_1 := hX1.cell 1; simp only [List.getElem?_cons_zero, List.getElem?_cons_succ] at k1_0 k1_1; have zk1 := hX1.lt; have n1_0 := hY1.cell 0; have n1_1 := hY1.cell 1; simp only [List.getElem?_cons_zero, List.getElem?_cons_succ] at n1_0 n1_1; have zn1 := hY1.lt; have i1_0 := hZ1.cell 0; have i1_1 := hZ1.cell 1; simp only [List.getElem?_cons_zero, List.getElem?_cons_succ] at i1_0 i1_1; have zi1 := hZ1.lt)
      | (go_at_call 16; with_reducible refine (HFX.out _).mono ?_; rintro e_ w2 ⟨rfl, hb2⟩; have hX2 := hX1.bel hb2; have hY2 := hY1.bel hb2; have hZ2 := hZ1.bel hb2; have hr2 := hr1.bel hb2; have hs2 := hs1.bel hb2; have ht2 := ht1.bel hb2; have HB2 := bel_tr HB1 (by have := HB1.size; omega) hb2; have k2_0 := hX2.cell 0; have k2_1 := hX2.cell 1; simp only [List.getElem?_cons_zero, List.getElem?_cons_succ] at k2_0 k2_1; have zk2 := hX2.lt; have n2_0 := hY2.cell 0; have n2_1 := hY2.cell 1; simp only [List.getElem?_cons_zero, List.getElem?_cons_succ] at n2_0 n2_1; have zn2 := hY2.lt; have i2_0 := hZ2.cell 0; have i2_1 := hZ2.cell 1; simp only [List.getElem?_cons_zero, List.getElem?_cons_succ] at i2_0 i2_1; have zi2 := hZ2.lt)
      | (go_at_call 16; with_reducible refine (HFY.out _).mono ?_; rintro e_ w3 ⟨rfl, hb3⟩; have hX3 := hX2.bel hb3; have hY3 := hY2.bel hb3; have hZ3 := hZ2.bel hb3; have hr3 := hr2.bel hb3; have hs3 := hs2.bel hb3; have ht3 := ht2.bel hb3; have HB3 := bel_tr HB2 (by have := HB2.size; omega) hb3; have k3_0 := hX3.cell 0; have k3_1 := hX3.cell 1; simp only [List.getElem?_cons_zero, List.getElem?_cons_succ] at k3_0 k3_1; have zk3 := hX3.lt; have n3_0 := hY3.cell 0; have n3_1 := hY3.cell 1; simp only [List.getElem?_cons_zero, List.getElem?_cons_succ] at n3_0 n3_1; have zn3 := hY3.lt; have i3_0 := hZ3.cell 0; have i3_1 := hZ3.cell 1; simp only [List.getElem?_cons_zero, List.getElem?_cons_succ] at i3_0 i3_1; have zi3 := hZ3.lt)
      | (go_at_call 16; with_reducible refine (HFZ.out _).mono ?_; rintro e_ w4 ⟨rfl, hb4⟩; have hX4 := hX3.bel hb4; have hY4 := hY3.bel hb4; have hZ4 := hZ3.bel hb4; have hr4 := hr3.bel hb4; have hs4 := hs3.bel hb4; have ht4 := ht3.bel hb4; have HB4 := bel_tr HB3 (by have := HB3.size; omega) hb4; have k4_0 := hX4.cell 0; have k4_1 := hX4.cell 1; simp only [List.getElem?_cons_zero, List.getElem?_cons_succ] at k4_0 k4_1; have zk4 := hX4.lt; have n4_0 := hY4.cell 0; have n4_1 := hY4.cell 1; simp only [List.getElem?_cons_zero, List.getElem?_cons_succ] at n4_0 n4_1; have zn4 := hY4.lt; have i4_0 := hZ4.cell 0; have i4_1 := hZ4.cell 1; simp only [List.getElem?_cons_zero, List.getElem?_cons_succ] at i4_0 i4_1; have zi4 := hZ4.lt))
    go_ret
    exact ⟨rfl, by rw [hp]; first | exact HB4 | exact HB3 | exact HB2⟩
end Go.Proofs.Ytgnhkjfdicdcmaa
